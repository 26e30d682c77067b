/-
  The bytes that the statements program: they rise from a first one on.
-/
import Derived.Test.YtjafjofonckaaaaRefErase
namespace Go.Proofs.Ytjafjofonckaaaa
open Go.ChangeShapes Go.WideShapes Go.ChangeAt Go.RowKit
namespace Nd

/-- The bytes that are programmed rise from a first one on. -/
def rise (f : Int) (i : Nat) : Int := (f + i) % 256
theorem rise_byte (f : Int) : ∀ i, 0 ≤ rise f i ∧ rise f i ≤ 255 := fun i => by unfold rise; omega

/-- How many bytes. -/
def howMany (s : Int) : Nat := if 0 < s ∧ s < 200 then s.toNat else 68
theorem howMany_bd (s : Int) : 1 ≤ howMany s ∧ howMany s ≤ 199 := by unfold howMany; split <;> omega

/-- A call's four cells. -/
def four (op a sh f : Int) : Nat → Value
  | 0 => .int .i64 op
  | 1 => .int .i64 a
  | 2 => .int .i64 sh
  | _ => .int .u8 f
theorem blk_four (w : World) (op a sh f : Int) (t : TypeId) : Blk (w.alloc (.cells #[.int .i64 op, .int .i64 a, .int .i64 sh, .int .u8 f] t)) w.heap.size 4 (four op a sh f) := by
  refine blk_alloc _ _ _ _ _ rfl (fun i hi => ?_)
  have : i = 0 ∨ i = 1 ∨ i = 2 ∨ i = 3 := by omega
  rcases this with rfl | rfl | rfl | rfl <;> rfl

set_option maxHeartbeats 400000 in
theorem data_any {w : World} (op a sh f : Int) :
    Calls Try.prog 17 #[.agg #[.int .i64 op, .int .i64 a, .int .i64 sh, .int .u8 f]] w fun e w' => e = .returned (.slice (some ⟨w.heap.size + 1, 0, none⟩) (howMany sh) (howMany sh)) ∧ Blk w' (w.heap.size + 1) (howMany sh) (fun i => .int .u8 (rise f i)) ∧ Keep (fun _ => False) w w' := by
  have hbd := howMany_bd sh
  have hmk := make_bytes (howMany sh) (by omega)
  have hB := blk_made (w.alloc (.cells #[.int .i64 op, .int .i64 a, .int .i64 sh, .int .u8 f] 38)) 5 (howMany sh)
  have hA := (blk_four w op a sh f 38).alloc (.cells (madeCells #[.int .u8 0] (howMany sh)) 5)
  have hK : Keep (fun b => b = w.heap.size + 1) w ((w.alloc (.cells #[.int .i64 op, .int .i64 a, .int .i64 sh, .int .u8 f] 38)).alloc (.cells (madeCells #[.int .u8 0] (howMany sh)) 5)) := ((Keep.refl _ _).alloc _).alloc _
  rw [World.size_alloc] at hB
  by_cases h0 : 0 < sh ∧ sh < 200
  · obtain ⟨h1, h2⟩ := h0
    have hn : (howMany sh : Int) = sh := by unfold howMany; rw [if_pos ⟨h1, h2⟩]; omega
    rw [hn] at hmk
    have HN : Hid ((howMany sh : Int) = sh) := hn
    clear hn
    generalize howMany sh = L at *
    go_enter Try.func17, Try.ntmps17
    go_wp2_with fail
    go_loopw [5] (fun i wr => ∃ q : Nat, q ≤ L ∧ i = .int .i64 q ∧ Blk wr (w.heap.size + 1) L (fun i => if i < q then .int .u8 (rise f i) else .int .u8 0) ∧ Blk wr w.heap.size 4 (four op a sh f) ∧ Keep (fun b => b = w.heap.size + 1) w wr) (fun i _ => L - (intOf i).toNat)
    case atStart => exact ⟨0, by omega, rfl, hB, hA, hK⟩
    case round =>
      obtain ⟨q, hq, rfl, hb, ha, hk⟩ := hrel
      clear hB hA hK
      by_cases hlt : q < L
      · obtain ⟨hc, hfz⟩ := hb q hlt
        simp only [if_neg (show ¬ q < q by omega)] at hc
        have a3 : wr.cell? ⟨w.heap.size, 3, none⟩ = some (.int .u8 f) := (ha 3 (by omega)).1
        have HB := hb.set q (.int .u8 (rise f q))
        have HA := ha.other (a := ⟨w.heap.size + 1, q, none⟩) (by simp) (.int .u8 (rise f q))
        have HK : Keep (fun b => b = w.heap.size + 1) w (wr.setCell ⟨w.heap.size + 1, q, none⟩ (.int .u8 (rise f q))) := hk.setCell (Or.inl rfl) _
        have hqb : (q : Int) < 256 := by omega
        have hql : (q : Int) < sh := by have := HN.out; omega
        have hri : (f + (q : Int)) % 256 = rise f q := rfl
        clear hb ha hk
        go_wp2_with fail
        go_roundw
        case rel => exact ⟨q + 1, by omega, by go_num, HB.congr (fun i _ => by (repeat' split) <;> first | rfl | omega | (subst_vars; rfl)), HA, HK⟩
        case measure => simp [intOf]; omega
      · obtain rfl : q = L := by omega
        have hql : ¬ (q : Int) < sh := by have := HN.out; omega
        go_wp2_with fail
        go_ret
        exact ⟨rfl, hb.congr (fun i hi => by rw [if_pos hi]), hk.mono (fun y hy e => by omega)⟩
  · have hn : howMany sh = 68 := by unfold howMany; rw [if_neg h0]
    rw [hn] at hmk hB hA hK hbd ⊢
    clear hn
    rw [show ((68 : Nat) : Int) = 68 from rfl] at hmk
    by_cases h1 : 0 < sh
    · have h2 : ¬ sh < 200 := by omega
      go_enter Try.func17, Try.ntmps17
      go_wp2_with fail
      go_loopw [5] (fun i wr => ∃ q : Nat, q ≤ 68 ∧ i = .int .i64 q ∧ Blk wr (w.heap.size + 1) 68 (fun i => if i < q then .int .u8 (rise f i) else .int .u8 0) ∧ Blk wr w.heap.size 4 (four op a sh f) ∧ Keep (fun b => b = w.heap.size + 1) w wr) (fun i _ => 68 - (intOf i).toNat)
      case atStart => exact ⟨0, by omega, rfl, hB, hA, hK⟩
      case round =>
        obtain ⟨q, hq, rfl, hb, ha, hk⟩ := hrel
        clear hB hA hK
        by_cases hlt : q < 68
        · obtain ⟨hc, hfz⟩ := hb q hlt
          simp only [if_neg (show ¬ q < q by omega)] at hc
          have a3 : wr.cell? ⟨w.heap.size, 3, none⟩ = some (.int .u8 f) := (ha 3 (by omega)).1
          have HB := hb.set q (.int .u8 (rise f q))
          have HA := ha.other (a := ⟨w.heap.size + 1, q, none⟩) (by simp) (.int .u8 (rise f q))
          have HK : Keep (fun b => b = w.heap.size + 1) w (wr.setCell ⟨w.heap.size + 1, q, none⟩ (.int .u8 (rise f q))) := hk.setCell (Or.inl rfl) _
          have hqb : (q : Int) < 256 := by omega
          have hql : (q : Int) < 68 := by omega
          have hri : (f + (q : Int)) % 256 = rise f q := rfl
          clear hb ha hk
          go_wp2_with fail
          go_roundw
          case rel => exact ⟨q + 1, by omega, by go_num, HB.congr (fun i _ => by (repeat' split) <;> first | rfl | omega | (subst_vars; rfl)), HA, HK⟩
          case measure => simp [intOf]; omega
        · obtain rfl : q = 68 := by omega
          go_wp2_with fail
          go_ret
          exact ⟨rfl, hb.congr (fun i hi => by rw [if_pos hi]), hk.mono (fun y hy e => by omega)⟩
    · go_enter Try.func17, Try.ntmps17
      go_wp2_with fail
      go_loopw [5] (fun i wr => ∃ q : Nat, q ≤ 68 ∧ i = .int .i64 q ∧ Blk wr (w.heap.size + 1) 68 (fun i => if i < q then .int .u8 (rise f i) else .int .u8 0) ∧ Blk wr w.heap.size 4 (four op a sh f) ∧ Keep (fun b => b = w.heap.size + 1) w wr) (fun i _ => 68 - (intOf i).toNat)
      case atStart => exact ⟨0, by omega, rfl, hB, hA, hK⟩
      case round =>
        obtain ⟨q, hq, rfl, hb, ha, hk⟩ := hrel
        clear hB hA hK
        by_cases hlt : q < 68
        · obtain ⟨hc, hfz⟩ := hb q hlt
          simp only [if_neg (show ¬ q < q by omega)] at hc
          have a3 : wr.cell? ⟨w.heap.size, 3, none⟩ = some (.int .u8 f) := (ha 3 (by omega)).1
          have HB := hb.set q (.int .u8 (rise f q))
          have HA := ha.other (a := ⟨w.heap.size + 1, q, none⟩) (by simp) (.int .u8 (rise f q))
          have HK : Keep (fun b => b = w.heap.size + 1) w (wr.setCell ⟨w.heap.size + 1, q, none⟩ (.int .u8 (rise f q))) := hk.setCell (Or.inl rfl) _
          have hqb : (q : Int) < 256 := by omega
          have hql : (q : Int) < 68 := by omega
          have hri : (f + (q : Int)) % 256 = rise f q := rfl
          clear hb ha hk
          go_wp2_with fail
          go_roundw
          case rel => exact ⟨q + 1, by omega, by go_num, HB.congr (fun i _ => by (repeat' split) <;> first | rfl | omega | (subst_vars; rfl)), HA, HK⟩
          case measure => simp [intOf]; omega
        · obtain rfl : q = 68 := by omega
          go_wp2_with fail
          go_ret
          exact ⟨rfl, hb.congr (fun i hi => by rw [if_pos hi]), hk.mono (fun y hy e => by omega)⟩
end Nd
end Go.Proofs.Ytjafjofonckaaaa
