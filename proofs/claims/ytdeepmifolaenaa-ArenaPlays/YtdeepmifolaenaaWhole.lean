/-
  The look at all nodes behind each call of the statement ArenaPlays: it answers true where the free list and the live nodes are the arena's.
-/
import Derived.Test.YtdeepmifolaenaaAwake
namespace Go.Proofs.Ytdeepmifolaenaa
open Go.ChangeShapes Go.WideShapes Go.ChangeAt Go.RowKit
namespace Tg

/-- What is left of a row of which the first q numbers were written over. -/
structure Rest (w0 w : World) (g cap q : Nat) (l : List Nat) : Prop where
  cells : ∀ i, q ≤ i → i < l.length → w.cell? ⟨g, i, none⟩ = some (.int .u32 ((l.getD i 0 : Nat) : Int))
  open_ : ∀ i, i < l.length → w.frozen? ⟨g, i, none⟩ = false
  new : w0.heap.size ≤ g
  keep : Keep (fun _ => False) w0 w

theorem Gw.rest {w0 w : World} {g cap : Nat} {l : List Nat} (h : Gw w0 w g cap (ints l)) : Rest w0 w g cap 0 l := by
  have hl := ints_len l
  refine ⟨fun i _ hi => ?_, fun i hi => (h.free i (by have := h.row.2.1; omega)).2, h.new, h.keep⟩
  rw [h.row.cellAt (i := i) (by omega), ints_get]
theorem Keep.drewN {S : Nat → Prop} {a w : World} (h : Keep S a w) (n : Nat) : Keep S a (w.drewN n) := ⟨h.os, h.tape, h.output, h.size, h.block⟩
theorem Rest.drewN {w0 w : World} {g cap q : Nat} {l : List Nat} (h : Rest w0 w g cap q l) (n : Nat) : Rest w0 (w.drewN n) g cap q l := ⟨h.cells, h.open_, h.new, h.keep.drewN n⟩
theorem Rest.set {w0 w : World} {g cap q : Nat} {l : List Nat} (h : Rest w0 w g cap q l) (v : Value) : Rest w0 (w.setCell ⟨g, q, none⟩ v) g cap (q + 1) l :=
  ⟨fun i hi hl => by rw [World.cell?_setCell_other (h := fun x => by have := congrArg Addr.off x; simp at this; omega)]; exact h.cells i (by omega) hl, fun i hi => by rw [World.frozen?_setCell]; exact h.open_ i hi, h.new, h.keep.setCell (Or.inr h.new) _⟩

set_option maxHeartbeats 1000000 in
theorem whole_any {w : World} {p k L : Nat} {s : Ar} {l : List Nat} {fa : Option Addr} {cap : Nat} (h : Mem w p k s) (ok : s.Ok l) (hr : Tw.Row w fa l.length cap (ints l)) (hv : Blk w L (s.N + 1) (fun x => .bool (s.live x))) :
    Calls Try.prog 12 #[.pointer (some ⟨p, 0, none⟩), .slice fa l.length cap, .slice (some ⟨L, 0, none⟩) (s.N + 1) (s.N + 1)] w fun e w' => e = .returned (.bool true) ∧ Keep (fun _ => False) w w' := by
  have hN := ok.small
  have h1 := ok.one
  have hc := ok.count
  have hfree := free_any h ok
  go_enter Try.func12, Try.ntmps12
  go_wp2_with fail
  refine hfree.mono ?_
  rintro e w1 ⟨g, cap1, rfl, hg⟩
  have hR := hg.rest
  have hm1 := h.keep hg.keep (fun e => e) (fun e => e)
  have hsz := size_any hm1
  have hlv := live_any hm1
  clear hfree hm1 hg
  have d1 : IntKind.i64.wrap ((s.N : Int) + 1) = (s.N : Int) + 1 := by rw [IntKind.wrap_i64]; omega
  have d2 : IntKind.i64.wrap ((s.N : Int) + 1 - 1) = (s.N : Int) := by rw [IntKind.wrap_i64]; omega
  have d3 : IntKind.i64.wrap ((s.N : Int) - (l.length : Int)) = (s.count : Int) := by rw [IntKind.wrap_i64]; omega
  have d4 : (s.N : Int) - (l.length : Int) = (s.count : Int) := by omega
  have hlen : (l.length : Int) ≤ 9223372036854775807 := by omega
  go_wp2_with (first | (go_at_call 13; refine hlv.mono ?_; rintro e w' ⟨rfl, rfl⟩) | (go_at_call 15; refine hsz.mono ?_; rintro e w' ⟨rfl, rfl⟩))
  clear hsz hlv d3 d4 d2 hc
  go_loopw [8] (fun i wr => ∃ q : Nat, q ≤ l.length ∧ i = .int .i64 q ∧ Rest w wr g cap1 q l) (fun i _ => l.length - (intOf i).toNat)
  case atStart => exact ⟨0, by omega, rfl, hR⟩
  case round =>
    obtain ⟨q, hq, rfl, hRq⟩ := hrel
    clear hR
    by_cases hlt : q < l.length
    · have hr2 := hr.keep hRq.keep (fun _ _ _ e => e)
      obtain ⟨_, hcap, _, _, hcs⟩ := hr2
      rcases hcs with h0 | ⟨b, o, rfl, hcs⟩
      · omega
      have c1 := hRq.cells q (by omega) hlt
      have c2 := hcs q hlt
      rw [ints_get] at c2
      have fz := hRq.open_ q hlt
      have hR2 := fun n => (hRq.drewN n).set (.int .u32 99)
      have dq : (q : Int) < l.length := by omega
      clear hRq hcs hr h ok hv
      generalize l.getD q 0 = z at c1 c2
      go_wp2_with fail
      go_quiet (fail)
      go_wp2_with fail
      go_roundw
      case rel => exact ⟨q + 1, by omega, by go_num, hR2 _⟩
      case measure => simp [intOf]; omega
    · have dq : ¬ (q : Int) < l.length := by omega
      have hK := hRq.keep
      clear hRq hr
      go_wp2_with fail
      go_loopw [9] (fun i wr => ∃ q : Nat, q ≤ s.N ∧ i = .int .i64 ((q : Int) + 1) ∧ Keep (fun _ => False) w wr) (fun i _ => s.N + 1 - (intOf i).toNat)
      case atStart => exact ⟨0, by omega, rfl, hK⟩
      case round =>
        obtain ⟨x, hx, rfl, hkx⟩ := hrel
        clear hK hlt dq hq
        by_cases hlt : x < s.N
        · have hm := h.keep hkx (fun e => e) (fun e => e)
          have hvx := hv.keep hkx (fun e => e)
          have dx : (x : Int) < s.N := by omega
          have dx1 : IntKind.i64.wrap ((x : Int) + 1 + 1) = (x : Int) + 1 + 1 := by rw [IntKind.wrap_i64]; omega
          cases hb : s.live (x + 1) with
          | true =>
            have hget := get_any hm hlt hN hb
            clear h ok hm hv
            go_wp2_with fail
            refine hget.mono ?_
            rintro e w2 ⟨rfl, hk2⟩
            obtain ⟨w3, hst, hb3, hk3⟩ := new_node w2 (s.fld (x + 1))
            have cv := ((hvx.keep hk2 (fun e => e)).keep hk3 (fun e => e) (x + 1) (by omega)).1
            simp only [hb] at cv
            have HK := (hkx.trans hk2).trans hk3
            clear hget hb3 hk2 hk3 hkx hvx hb
            generalize nodeA (s.fld (x + 1)) = A at hst ⊢
            go_wp2_with (guard_target =~ wpList _ _ _ (Oper.mk _ (Op.store 40 _ _) _ _ _ _ :: _) _ _; refine wpList_store_run rfl 40 (.tmp 10) (.tmp 67) rfl (by rfl) (by rfl) hst ?_)
            go_roundw
            case rel => exact ⟨x + 1, by omega, by go_num, HK⟩
            case measure => simp [intOf]; omega
          | false =>
            have hget := get_no hm (x := x + 1) (by omega) hN (by rw [hb]; simp)
            rw [show ((x + 1 : Nat) : Int) = (x : Int) + 1 from rfl] at hget
            clear h ok hm hv
            go_wp2_with fail
            refine hget.mono ?_
            rintro e w2 ⟨rfl, hk2⟩
            obtain ⟨w3, hst, hb3, hk3⟩ := new_node w2 (fun _ => 0)
            have cv := ((hvx.keep hk2 (fun e => e)).keep hk3 (fun e => e) (x + 1) (by omega)).1
            simp only [hb] at cv
            have HK := (hkx.trans hk2).trans hk3
            clear hget hb3 hk2 hk3 hkx hvx hb
            generalize nodeA (fun _ => 0) = A at hst ⊢
            go_wp2_with (guard_target =~ wpList _ _ _ (Oper.mk _ (Op.store 40 _ _) _ _ _ _ :: _) _ _; refine wpList_store_run rfl 40 (.tmp 10) (.tmp 67) rfl (by rfl) (by rfl) hst ?_)
            go_roundw
            case rel => exact ⟨x + 1, by omega, by go_num, HK⟩
            case measure => simp [intOf]; omega
        · have dx : ¬ (x : Int) + 1 < (s.N : Int) + 1 := by omega
          clear h ok hv
          go_wp2_with fail
          go_ret
          exact ⟨rfl, hkx⟩
end Tg
end Go.Proofs.Ytdeepmifolaenaa
