/-
  What New answers and lays, a page of one byte, and how a page that was cut is told: any memory.
-/
import Derived.Test.YtjafjofonckaaaaWalkE
namespace Go.Proofs.Ytjafjofonckaaaa
open Go.ChangeShapes Go.WideShapes Go.ChangeAt Go.RowKit
namespace Nd

theorem info71 : (Try.prog.info? 71).map (fun i => (i.zero, i.size, i.bytes)) = some (some (.agg #[.bool false, .bool false, .int .i64 0, .int .i64 0]), 4, 24) := by kernel_rfl

theorem make_bytes (n : Nat) (hn : n ≤ 139264) (w : World) : (Instr.makeSlice 28 (.int .i64 (n : Int)) (.int .i64 (n : Int))).run Try.prog w = .ok (.slice (some ⟨w.heap.size, 0, none⟩) n n) (w.alloc (.cells (madeCells #[.int .u8 0] n) 5)) :=
  run_make_row' (P := Try.prog) 28 5 (.int .u8 0) 1 Try.underlying28 info5 rfl .i64 .i64 n (by omega) (by omega) w

theorem make_blocks (n : Nat) (hn : n ≤ 64) (w : World) : (Instr.makeSlice 64 (.int .i64 (n : Int)) (.int .i64 (n : Int))).run Try.prog w =
    .ok (.slice (some ⟨w.heap.size, 0, none⟩) n n) (w.alloc (.cells (madeCells #[.bool false, .bool false, .int .i64 0, .int .i64 0] (n * 4)) 71)) := by
  obtain ⟨i, hi, hz0, hz1, hz2⟩ := info_parts info71
  have := run_make (P := Try.prog) w 64 71 i _ Try.underlying64 hi hz0 .i64 .i64 n n (by omega) (by omega) (by rw [hz2]; omega) (by omega)
  rw [this, hz1]
  simp [Value.cells]

theorem blk_made (w : World) (t : TypeId) (n : Nat) : Blk (w.alloc (.cells (madeCells #[.int .u8 0] n) t)) w.heap.size n (fun _ => .int .u8 0) := fun i hi =>
  ⟨(World.rowIs_made w (.int .u8 0) n t).cell hi, (World.rowIs_made w (.int .u8 0) n t).frozen i⟩

theorem blk_alloc (w : World) (arr : Array Value) (t : TypeId) (n : Nat) (f : Nat → Value) (hs : arr.size = n) (h : ∀ i, i < n → arr[i]? = some (f i)) : Blk (w.alloc (.cells arr t)) w.heap.size n f := by
  have r : (w.alloc (.cells arr t)).rowIs w.heap.size t n f := ⟨arr, Go.Deep.blk_alloc_new _ _, hs, h⟩
  exact fun i hi => ⟨r.cell hi, r.frozen i⟩

theorem blk_made4 (w : World) (B P : Nat) : Blk (w.alloc (.cells (madeCells #[.bool false, .bool false, .int .i64 0, .int .i64 0] (B * 4)) 71)) w.heap.size (B * 4) (blkCell (Fl.new B P)) := by
  refine blk_alloc _ _ _ _ _ (by simp [madeCells]) (fun i hi => ?_)
  simp [madeCells, hi]
  have h4 : i % 4 = 0 ∨ i % 4 = 1 ∨ i % 4 = 2 ∨ i % 4 = 3 := by omega
  rcases h4 with h | h | h | h <;> simp [h, blkCell, Fl.new]

theorem blk_top (w : World) (c k B P M : Nat) (hM : M = B * P * 68) : Blk (w.alloc (.cells #[.int .i64 (P : Int), .slice (some ⟨c, 0, none⟩) M M, .slice (some ⟨k, 0, none⟩) B B, .bool false, .int .i64 (-1), .int .i64 (-1), .int .i64 0, .int .i64 0, .int .i64 0] 66)) w.heap.size 9 (topCell c k (Fl.new B P)) := by
  subst hM
  refine blk_alloc _ _ _ _ _ rfl (fun i hi => ?_)
  rcases top_split hi with rfl | rfl | rfl | rfl | rfl | rfl | rfl | rfl | rfl <;> rfl

theorem Mem.cells_eq {w : World} {p c k : Nat} {s : Fl} (h : Mem w p c k s) (d : Nat → Int) (e : ∀ i, i < s.B * s.P * 68 → s.cell i = d i) : Mem w p c k { s with cell := d } :=
  ⟨h.top, h.cel.congr (fun i hi => by rw [e i hi]), h.blk, h.pc, h.pk, h.ck⟩

/-- Two orders of making: the struct last. -/
theorem new_fill {W : World} {p c k B P M : Nat} (hM : M = B * P * 68) (hp : Blk W p 9 (topCell c k (Fl.new B P))) (hc : Blk W c M (fun _ => .int .u8 0)) (hk : Blk W k (B * 4) (blkCell (Fl.new B P))) (pc : p ≠ c) (pk : p ≠ k) (ck : c ≠ k) (hN : M ≤ 139264) :
    Calls Try.prog 33 #[.slice (some ⟨c, 0, none⟩) M M, .int .u8 255] W fun e w' => e = .returned (.tuple #[]) ∧ Mem w' p c k (Fl.new B P) ∧ Keep (fun b => b = c) W w' := by
  subst hM
  refine (fill_any hc 0 (B * P * 68) (B * P * 68) (by omega) hN 255).mono ?_
  rintro e w' ⟨rfl, hb, hk1⟩
  refine ⟨rfl, ⟨hp.keep hk1 pc, hb.congr (fun i hi => by rw [if_pos (by omega)]; rfl), hk.keep hk1 (Ne.symm ck), pc, pk, ck⟩, hk1⟩

theorem new_no {w : World} {B P : Int} (h : B < 1 ∨ 64 < B ∨ P < 1 ∨ 32 < P) :
    Calls Try.prog 9 #[.int .i64 B, .int .i64 P] w fun e w' => e = .returned (.tuple #[.pointer none, .int .i64 1]) ∧ w' = w := by
  by_cases h1 : B < 1
  · go_enter Try.func9, Try.ntmps9
    go_wp2_with fail
    go_ret2
    exact ⟨rfl, rfl⟩
  · by_cases h2 : 64 < B
    · go_enter Try.func9, Try.ntmps9
      go_wp2_with fail
      go_ret2
      exact ⟨rfl, rfl⟩
    · by_cases h3 : P < 1
      · go_enter Try.func9, Try.ntmps9
        go_wp2_with fail
        go_ret2
        exact ⟨rfl, rfl⟩
      · have h4 : 32 < P := by omega
        go_enter Try.func9, Try.ntmps9
        go_wp2_with fail
        go_ret2
        exact ⟨rfl, rfl⟩

theorem new_any {w : World} {B P : Nat} (b1 : 1 ≤ B) (b2 : B ≤ 64) (p1 : 1 ≤ P) (p2 : P ≤ 32) :
    Calls Try.prog 9 #[.int .i64 B, .int .i64 P] w fun e w' => ∃ p c k, e = .returned (.tuple #[.pointer (some ⟨p, 0, none⟩), .int .i64 0]) ∧ Mem w' p c k (Fl.new B P) ∧ w.heap.size ≤ p ∧ w.heap.size ≤ c ∧ w.heap.size ≤ k ∧ Keep (fun _ => False) w w' := by
  have hm : B * P ≤ 64 * 32 := Nat.mul_le_mul b2 p2
  have hk1 := make_bytes (B * P * 68) (by omega)
  have hk2 := make_blocks B b2
  have i1 : ((B : Int) * (P : Int)) * 68 = ((B * P * 68 : Nat) : Int) := by simp
  have n1 : ¬ (B : Int) < 1 := by omega
  have n2 : ¬ (64 : Int) < B := by omega
  have n3 : ¬ (P : Int) < 1 := by omega
  have n4 : ¬ (32 : Int) < P := by omega
  have i2 : (B : Int) * (P : Int) ≤ 2048 := by have : ((B * P : Nat) : Int) ≤ 2048 := by omega
                                               simpa using this
  have i3 : 0 ≤ (B : Int) * (P : Int) := by have : (0 : Int) ≤ ((B * P : Nat) : Int) := by omega
                                            simpa using this
  have hN : B * P * 68 ≤ 139264 := by omega
  obtain ⟨M, HM⟩ : ∃ M, Hid (M = B * P * 68) := ⟨_, rfl⟩
  rw [← HM.out] at hk1 i1 hN
  clear hm
  go_enter Try.func9, Try.ntmps9
  go_wp2_with fail
  go_region
  · have hp := (blk_top ((w.alloc (.cells (madeCells #[.int .u8 0] M) 5)).alloc (.cells (madeCells #[.bool false, .bool false, .int .i64 0, .int .i64 0] (B * 4)) 71)) w.heap.size (w.heap.size + 1) B P M HM.out).drew
    have hc := ((((blk_made w 5 M).alloc (.cells (madeCells #[.bool false, .bool false, .int .i64 0, .int .i64 0] (B * 4)) 71)).alloc (.cells #[.int .i64 (P : Int), .slice (some ⟨w.heap.size, 0, none⟩) M M, .slice (some ⟨w.heap.size + 1, 0, none⟩) B B, .bool false, .int .i64 (-1), .int .i64 (-1), .int .i64 0, .int .i64 0, .int .i64 0] 66))).drew
    have hk := ((blk_made4 (w.alloc (.cells (madeCells #[.int .u8 0] M) 5)) B P).alloc (.cells #[.int .i64 (P : Int), .slice (some ⟨w.heap.size, 0, none⟩) M M, .slice (some ⟨w.heap.size + 1, 0, none⟩) B B, .bool false, .int .i64 (-1), .int .i64 (-1), .int .i64 0, .int .i64 0, .int .i64 0] 66)).drew
    simp only [World.size_alloc] at hp hk
    have hF := new_fill HM.out hp hc hk (by omega) (by omega) (by omega) hN
    have hK : Keep (fun _ => False) w ((((w.alloc (.cells (madeCells #[.int .u8 0] M) 5)).alloc (.cells (madeCells #[.bool false, .bool false, .int .i64 0, .int .i64 0] (B * 4)) 71)).alloc (.cells #[.int .i64 (P : Int), .slice (some ⟨w.heap.size, 0, none⟩) M M, .slice (some ⟨w.heap.size + 1, 0, none⟩) B B, .bool false, .int .i64 (-1), .int .i64 (-1), .int .i64 0, .int .i64 0, .int .i64 0] 66)).drew) := ((((Keep.refl _ _).alloc _).alloc _).alloc _).drew
    clear hp hc hk
    go_wp2_with fail
    refine hF.mono ?_
    rintro e w2 ⟨rfl, hm2, hk2⟩
    go_wp2_with fail
    go_ret2
    exact ⟨_, _, _, rfl, hm2, by omega, by omega, by omega, hK.next hk2 (fun x hx e => by omega)⟩
  · have hp := (blk_top ((w.alloc (.cells (madeCells #[.bool false, .bool false, .int .i64 0, .int .i64 0] (B * 4)) 71)).alloc (.cells (madeCells #[.int .u8 0] M) 5)) (w.heap.size + 1) w.heap.size B P M HM.out).drew
    have hc := ((blk_made (w.alloc (.cells (madeCells #[.bool false, .bool false, .int .i64 0, .int .i64 0] (B * 4)) 71)) 5 M).alloc (.cells #[.int .i64 (P : Int), .slice (some ⟨w.heap.size + 1, 0, none⟩) M M, .slice (some ⟨w.heap.size, 0, none⟩) B B, .bool false, .int .i64 (-1), .int .i64 (-1), .int .i64 0, .int .i64 0, .int .i64 0] 66)).drew
    have hk := (((blk_made4 w B P).alloc (.cells (madeCells #[.int .u8 0] M) 5)).alloc (.cells #[.int .i64 (P : Int), .slice (some ⟨w.heap.size + 1, 0, none⟩) M M, .slice (some ⟨w.heap.size, 0, none⟩) B B, .bool false, .int .i64 (-1), .int .i64 (-1), .int .i64 0, .int .i64 0, .int .i64 0] 66)).drew
    simp only [World.size_alloc] at hp hc
    have hF := new_fill HM.out hp hc hk (by omega) (by omega) (by omega) hN
    have hK : Keep (fun _ => False) w ((((w.alloc (.cells (madeCells #[.bool false, .bool false, .int .i64 0, .int .i64 0] (B * 4)) 71)).alloc (.cells (madeCells #[.int .u8 0] M) 5)).alloc (.cells #[.int .i64 (P : Int), .slice (some ⟨w.heap.size + 1, 0, none⟩) M M, .slice (some ⟨w.heap.size, 0, none⟩) B B, .bool false, .int .i64 (-1), .int .i64 (-1), .int .i64 0, .int .i64 0, .int .i64 0] 66)).drew) := ((((Keep.refl _ _).alloc _).alloc _).alloc _).drew
    clear hp hc hk
    go_wp2_with fail
    refine hF.mono ?_
    rintro e w2 ⟨rfl, hm2, hk2⟩
    go_wp2_with fail
    go_ret2
    exact ⟨_, _, _, rfl, hm2, by omega, by omega, by omega, hK.next hk2 (fun x hx e => by omega)⟩

theorem page_any {w : World} (v : Int) :
    Calls Try.prog 11 #[.int .u8 v] w fun e w' => e = .returned (.slice (some ⟨w.heap.size, 0, none⟩) 68 68) ∧ Blk w' w.heap.size 68 (fun _ => .int .u8 v) ∧ Keep (fun _ => False) w w' := by
  have hmk := make_bytes 68 (by omega)
  rw [show ((68 : Nat) : Int) = 68 from rfl] at hmk
  have hB := blk_made w 5 68
  have hK : Keep (fun b => b = w.heap.size) w (w.alloc (.cells (madeCells #[.int .u8 0] 68) 5)) := (Keep.refl _ _).alloc _
  go_enter Try.func11, Try.ntmps11
  go_wp2_with fail
  go_loopw [4] (fun i wr => ∃ q : Nat, q ≤ 68 ∧ i = .int .i64 q ∧ Blk wr w.heap.size 68 (fun i => if i < q then .int .u8 v else .int .u8 0) ∧ Keep (fun b => b = w.heap.size) w wr) (fun i _ => 68 - (intOf i).toNat)
  case atStart => exact ⟨0, by omega, rfl, hB, hK⟩
  case round =>
    obtain ⟨q, hq, rfl, hb, hk⟩ := hrel
    clear hB hK
    by_cases hlt : q < 68
    · obtain ⟨hc, hf⟩ := hb q hlt
      simp only [if_neg (show ¬ q < q by omega)] at hc
      have HB := hb.set q (.int .u8 v)
      have HK : Keep (fun b => b = w.heap.size) w (wr.setCell ⟨w.heap.size, q, none⟩ (.int .u8 v)) := hk.setCell (Or.inl rfl) _
      clear hb hk
      have hmk := hlt
      go_wp2_with fail
      go_roundw
      case rel => exact ⟨q + 1, by omega, by go_num, HB.congr (fun i _ => by (repeat' split) <;> first | rfl | omega), HK⟩
      case measure => simp [intOf]; omega
    · obtain rfl : q = 68 := by omega
      go_wp2_with fail
      go_ret
      exact ⟨rfl, hb.congr (fun i hi => by rw [if_pos hi]), hk.mono (fun x hx e => by omega)⟩

theorem sevens_any {w : World} {p c k N : Nat} {s : Fl} {pg n : Nat} (h : Mem w p c k s) (ok : s.Ok N) (hN : N ≤ 1000000) (hb : pg < s.B * s.P) (e1 : s.on = true) (hn : n ≤ 68) (hs : ∀ i, i < 68 → s.cell (pg * 68 + i) = if i < n then 7 else 255) :
    Calls Try.prog 32 #[.pointer (some ⟨p, 0, none⟩), .int .i64 pg] w fun e w' => e = .returned (.int .i64 n) ∧ Mem w' p c k s.readOne ∧ Keep (Own p c k) w w' := by
  have H := read_any h ok hN hb e1
  go_enter Try.func32, Try.ntmps32
  go_wp2_with fail
  refine H.mono ?_
  rintro e w1 ⟨g, cap, rfl, hg, hrow, hf, hm, hk⟩
  have hc : ∀ i, i < 68 → w1.cell? ⟨g, i, none⟩ = some (.int .u8 (if i < n then 7 else 255)) := fun i hi => by rw [hrow.cellAt hi, tab_get _ hi, hs i hi]
  clear H hs hrow hf
  go_wp2_with fail
  go_loop [7] (fun v => ∃ q : Nat, q ≤ n ∧ v = .int .i64 q) (fun v => 68 - (intOf v).toNat)
  case atStart => exact ⟨0, by omega, rfl⟩
  case round =>
    obtain ⟨q, hq, rfl⟩ := hrel
    by_cases hlt : q < n
    · have hcq := hc q (by omega)
      rw [if_pos hlt] at hcq
      have hq68 : (q : Int) < 68 := by omega
      clear hc
      go_wp2_with fail
      go_round
      case rel => exact ⟨q + 1, by omega, by go_num⟩
      case measure => simp [intOf]; omega
    · obtain rfl : q = n := by omega
      by_cases h68 : q < 68
      · have hcq := hc q h68
        rw [if_neg (by omega)] at hcq
        have hq68 : (q : Int) < 68 := by omega
        go_wp2_with fail
        go_loop [8] (fun v => ∃ r : Nat, q ≤ r ∧ r ≤ 68 ∧ v = .int .i64 r) (fun v => 68 - (intOf v).toNat)
        case atStart => exact ⟨q, by omega, by omega, rfl⟩
        case round =>
          obtain ⟨r, hr1, hr2, rfl⟩ := hrel
          clear hcq
          by_cases hr3 : r < 68
          · have hcr := hc r hr3
            rw [if_neg (by omega)] at hcr
            have hr68 : (r : Int) < 68 := by omega
            clear hc
            go_wp2_with fail
            go_round
            case rel => exact ⟨r + 1, by omega, by omega, by go_num⟩
            case measure => simp [intOf]; omega
          · have hr68 : ¬ (r : Int) < 68 := by omega
            clear hc
            go_wp2_with fail
            go_ret
            exact ⟨rfl, hm, hk⟩
      · have hq68 : ¬ (q : Int) < 68 := by omega
        clear hc
        go_wp2_with fail
        go_loop [8] (fun v => ∃ r : Nat, q ≤ r ∧ r ≤ 68 ∧ v = .int .i64 r) (fun v => 68 - (intOf v).toNat)
        case atStart => exact ⟨q, by omega, by omega, rfl⟩
        case round =>
          obtain ⟨r, hr1, hr2, rfl⟩ := hrel
          have hr68 : ¬ (r : Int) < 68 := by omega
          go_wp2_with fail
          go_ret
          exact ⟨rfl, hm, hk⟩
end Nd
end Go.Proofs.Ytjafjofonckaaaa
