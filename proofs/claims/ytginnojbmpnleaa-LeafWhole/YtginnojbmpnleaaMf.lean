/-
  The program's sorted, walked.
-/
import Derived.Test.YtginnojbmpnleaaMe
namespace Go.Proofs.Ytginnojbmpnleaa
open Go.ChangeShapes Go.WideShapes Go.ChangeAt Go.RowKit
namespace Tg
/-- Those pages that are of streams. -/
def knL (l : List Pg) : List Pg := l.filter (fun p => knB p.kind)
theorem knL_len (l : List Pg) : (knL l).length ≤ l.length := List.length_filter_le _ _
theorem knL_mem {l : List Pg} {p : Pg} : p ∈ knL l ↔ p ∈ l ∧ (p.kind = 2 ∨ p.kind = 3) := by
  unfold knL knB
  simp
theorem knL_next {l : List Pg} {i : Nat} {q : Pg} (h : l[i]? = some q) : knL (l.take (i + 1)) = knL (l.take i) ++ (if knB q.kind then [q] else []) := by
  unfold knL
  rw [List.take_add_one, h, List.filter_append]
  congr 1
  cases hb : knB q.kind <;> simp [hb]
set_option maxRecDepth 100000 in
set_option maxHeartbeats 1000000 in
theorem sorted_any {w : World} {a : Option Addr} {cap : Nat} {l : List Pg} (hR : Rg w a cap l) (hl : l.length ≤ 100000) :
    Calls Try.prog 19 #[.slice a l.length cap] w fun e w' => ∃ a' c' D, e = .returned (.slice a' D.length c') ∧ D.Perm (knL l) ∧ Srt D ∧ Rg w' a' c' D ∧ Keep (fun _ => False) w w' := by
  have hlc := hR.1
  have hlc2 := hR.2.1
  go_enter Try.func19, Try.ntmps19
  go_wp2_with fail
  go_loopw [3, 8] (fun rv v wx => ∃ (i n c : Nat) (a' : Option Addr), i ≤ l.length ∧ v = .int .i64 (i : Int) ∧ rv = .slice a' n c ∧ Hid (n = (knL (l.take i)).length) ∧ Ro w wx a' c (knL (l.take i))) (fun _ v _ => l.length - (intOf v).toNat)
  case atStart => exact ⟨0, 0, 0, none, by omega, rfl, rfl, rfl, Ro.nil w⟩
  case round =>
    obtain ⟨i, n, c, a', hi, rfl, rfl, hn, R⟩ := hrel
    by_cases hlt : i < l.length
    · obtain ⟨q, hq⟩ := get_pg hlt
      obtain ⟨g, o, rfl, hc⟩ := (hR.more R.keep).at hq
      have hlq : (Instr.loadAt 33 (.pointer (some ⟨g, o + i * 39, none⟩))).run Try.prog wr = .ok (.agg (pgA q)) wr := pg_load hc
      have hnx := knL_next hq
      have hni : n ≤ i := by rw [show n = _ from hn]; exact Nat.le_trans (knL_len _) (List.length_take_le _ _)
      have di : (i : Int) < (l.length : Int) := by omega
      have dw := wrapI (x := (i : Int) + 1) (by omega) (by omega)
      have hlt' : Hid (i < l.length) := hlt
      have Ka := (Keep.refl (fun _ => False) wr).alloc (.cells (pgA pg0) 33)
      obtain ⟨w4, hst, P4, K4⟩ := (Pv.new wr pg0).over q
      rw [pg0_lit] at hst
      have hsz : (wr.alloc (.cells (pgA pg0) 33)).heap.size = wr.heap.size + 1 := by simp
      have R4 : Ro w w4 a' c (knL (l.take i)) := (R.more Ka).other K4 (fun g e => by have := (R.block e).2; omega) (fun x e => by have := R.keep.size; omega)
      have hkn := known_any q.kind
      have c0 := P4.kind
      have hl4 := P4.load
      clear hlt hq hc R Ka K4 hsz P4
      cases hb : knB q.kind with
      | false =>
        rw [hb] at hkn hnx
        simp only [if_false, List.append_nil, Bool.false_eq_true] at hnx
        rw [← hnx] at R4 hn
        clear hl4 hnx hb
        generalize pgA q = A at hlq hst
        go_wp2_with (first | (guard_target =~ wpList _ _ _ (Oper.mk _ (Op.load 33 _) _ _ _ _ :: _) _ _; refine wpList_load_run (by rfl) 33 (.tmp 10) rfl (by rfl) hlq ?_) | (guard_target =~ wpList _ _ _ (Oper.mk _ (Op.store 33 _ _) _ _ _ _ :: _) _ _; refine wpList_store_run rfl 33 (.tmp 5) (.tmp 11) rfl (by rfl) (by rfl) hst ?_) | (go_at_call 18; refine (hkn _).mono ?_; rintro e w2 ⟨rfl, rfl⟩))
        go_roundw
        case rel => exact ⟨i + 1, n, c, a', hlt', by go_num, rfl, hn, R4⟩
        case measure => have : i < l.length := hlt'; simp [intOf]; omega
      | true =>
        rw [hb] at hkn hnx
        simp only [if_true] at hnx
        obtain ⟨a6, c6, w6, hrun, R6, -, -⟩ := R4.app1 (by rw [← show n = _ from hn]; omega) q
        rw [← show n = _ from hn] at hrun
        rw [← hnx] at R6
        have hn6 : Hid (n + 1 = (knL (l.take (i + 1))).length) := by show _ = _; rw [hnx, List.length_append, ← show n = _ from hn]; rfl
        have hbd := build_pg q w4
        clear hnx hb R4 hn
        generalize pgA q = A at hlq hst hl4 hrun hbd
        go_wp2_with (first | (guard_target =~ wpList _ _ _ (Oper.mk _ (Op.load 33 _) _ _ _ _ :: _) _ _; first | refine wpList_load_run (by rfl) 33 (.tmp 10) rfl (by rfl) hlq ?_ | refine wpList_load_run (by rfl) 33 (.tmp 5) rfl (by rfl) hl4 ?_) | (guard_target =~ wpList _ _ _ (Oper.mk _ (Op.store 33 _ _) _ _ _ _ :: _) _ _; refine wpList_store_run rfl 33 (.tmp 5) (.tmp 11) rfl (by rfl) (by rfl) hst ?_) | (go_at_call 18; refine (hkn _).mono ?_; rintro e w2 ⟨rfl, rfl⟩) | (guard_target =~ wpList _ _ _ (Oper.mk _ (Op.buildSlice _ _ _) _ _ _ _ :: _) _ _; refine wpList_build_run (by rfl) 23 1 (.tmp 16) rfl (by rfl) hbd ?_) | (at_builtin; refine wpList_append_run rfl (.tmp 15) (.tmp 17) 23 rfl (by rfl) (by rfl) hrun ?_))
        go_roundw
        case rel => exact ⟨i + 1, n + 1, c6, a6, hlt', by go_num, rfl, hn6, R6⟩
        case measure => have : i < l.length := hlt'; simp [intOf]; omega
    · obtain rfl : i = l.length := by omega
      rw [List.take_length] at R hn
      have hs := sort_any R (Nat.le_trans (knL_len l) (by omega))
      rw [← show n = _ from hn] at hs
      have di : ¬ (l.length : Int) < (l.length : Int) := by omega
      clear hlt R
      go_wp2_with (go_at_call 25; refine hs.mono ?_; rintro e w7 ⟨rfl, D, hD, hsD, hRD, KD⟩)
      go_ret
      exact ⟨a', c, D, by rw [hD.length_eq, ← show n = _ from hn]; rfl, hD, hsD, hRD, KD⟩
end Tg
end Go.Proofs.Ytginnojbmpnleaa
