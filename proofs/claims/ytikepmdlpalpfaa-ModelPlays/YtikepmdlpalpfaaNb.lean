/-
  The landed array: Write, Trim.
-/
import Derived.Test.YtikepmdlpalpfaaNa
namespace Go.Proofs.Ytikepmdlpalpfaa
open Go.ChangeShapes Go.WideShapes Go.ChangeAt Go.RowKit
namespace Tg
theorem padL_at (m : Nat) (d : List Int) (j : Nat) (hj : j < m) : (padL m d)[j]? = some (d.getD j 0) := by
  unfold padL
  by_cases h : j < d.length
  · rw [List.getElem?_append_left (by simp; omega), List.getElem?_take, if_pos hj]
    simp [List.getD, h]
  · rw [List.getElem?_append_right (by simp; omega)]
    rw [List.getElem?_replicate, if_pos (by simp; omega)]
    simp [List.getD, h]
theorem wrL_get {l : List Int} {a n : Nat} {d : List Int} (h : (a + n) * 32 ≤ l.length) (i : Nat) : (wrL l a n d).getD i 0 = if a * 32 ≤ i ∧ i < (a + n) * 32 then d.getD (i - a * 32) 0 else l.getD i 0 := by
  rw [List.getD_eq_getElem?_getD, wrL_at h]
  by_cases h1 : i < a * 32
  · rw [if_pos h1, if_neg (by omega), List.getD_eq_getElem?_getD]
  · by_cases h2 : i < (a + n) * 32
    · rw [if_neg h1, if_pos h2, if_pos (by omega), padL_at _ _ _ (by omega)]; rfl
    · rw [if_neg h1, if_neg h2, if_neg (by omega), List.getD_eq_getElem?_getD]
theorem Arr.change {w w' : World} {p g cap : Nat} {l l' : List Int} (h : Arr w p g cap l) (k : Keep (fun k => k = g) w w') (hb : Blk w' g l.length (fun i => .int .u8 (l'.getD i 0))) (hl : l'.length = l.length) (h8 : B8 l') : Arr w' p g cap l' :=
  ⟨h.ne, by rw [hl, ← h.cell]; exact World.cell?_of_block (w := w) (a := ⟨p, 0, none⟩) (k.block p (World.block_lt_of_cell? w _ h.cell) h.ne), by rw [hl]; exact hb, h8, by rw [hl]; exact h.pos, by rw [hl]; exact h.room, h.most⟩
theorem zero5 (w : World) : (zeroValue 5).run Try.prog w = .ok (.int .u8 0) w := by
  obtain ⟨i, hi, hz0, hz1, hz2⟩ := info_parts info5
  simp [zeroValue, typeInfo, hi, hz0]
theorem size5 (w : World) : (Go.sizeOf 5).run Try.prog w = .ok 1 w := by
  obtain ⟨i, hi, hz0, hz1, hz2⟩ := info_parts info5
  simp [Go.sizeOf, typeInfo, hi, hz1]
theorem clear_none (w : World) (a : Option Addr) (c : Nat) : (Builtin.clear_ #[45] 0 #[.slice a 0 c]).run Try.prog w = .ok (.tuple #[]) w := by
  cases a <;> simp [Builtin.clear_, run_underlying Try.underlying45]
theorem clear_some {w : World} {g N : Nat} {f : Nat → Value} (h : Blk w g N f) (o n c : Nat) (hn : 0 < n) (hm : o + n ≤ N) : (Builtin.clear_ #[45] 0 #[.slice (some ⟨g, o, none⟩) n c]).run Try.prog w = .ok (.tuple #[]) (w.setCells g o ((List.range n).map fun _ => .int .u8 0)) := by
  have := Go.Lib.run_clear_slice (P := Try.prog) w 45 5 0 (.int .u8 0) Try.underlying45 zero5 rfl rfl g o n c hn (fun j hj => by rw [(h (o + j) (by omega)).1]; rfl) (fun j hj => (h (o + j) (by omega)).2)
  rw [this]
  congr 2
  rw [List.map_const']
  simp
theorem copy_str {w : World} {g N : Nat} {f : Nat → Value} (h : Blk w g N f) (o m c : Nat) (hm : o + m ≤ N) (t : ByteArray) :
    (Builtin.copy_ #[45, 9] 3 #[.slice (some ⟨g, o, none⟩) m c, .string t]).run Try.prog w = .ok (.int .i64 ((min t.size m : Nat) : Int)) (w.setCells g o ((List.range (min t.size m)).map fun i => .int .u8 ((nums t).getD i 0))) := by
  have hl : (t.data.toList.map fun x => Value.int .u8 (x.toNat : Int)).length = t.size := by rw [List.length_map]; rfl
  have e : (t.data.toList.map fun x => Value.int .u8 (x.toNat : Int)).take (min t.size m) = (List.range (min t.size m)).map fun i => Value.int .u8 ((nums t).getD i 0) := by
    apply List.ext_getElem
    · rw [List.length_take, hl]; simp
    · intro i h1 h2
      have h3 : i < min t.size m := by simpa using h2
      have h4 : i < (nums t).length := by rw [nums_len]; omega
      simp only [List.getElem_take, List.getElem_map, List.getElem_range]
      rw [List.getD_eq_getElem?_getD, List.getElem?_eq_getElem h4]
      simp [nums]
  have hst := run_storeCells_cells (P := Try.prog) g o ((List.range (min t.size m)).map fun i => Value.int .u8 ((nums t).getD i 0)) 0 w (fun j hj => by
      have : j < min t.size m := by simpa using hj
      rw [show o + 0 + j = o + j by omega, (h (o + j) (by omega)).1]; rfl) (fun j hj => by
      have : j < min t.size m := by simpa using hj
      rw [show o + 0 + j = o + j by omega]; exact (h (o + j) (by omega)).2) (by
    intro v hv
    obtain ⟨x, _, rfl⟩ := List.mem_map.1 hv
    rfl)
  have hmin : Nat.min t.size m = min t.size m := rfl
  simp only [Nat.add_zero] at hst
  generalize ((List.range (min t.size m)).map fun i => Value.int .u8 ((nums t).getD i 0)) = X at *
  simp [Builtin.copy_, run_underlying Try.underlying45, Builtin.lenOf, Builtin.firstCells, hmin, e]
  rw [hst]
  rfl
set_option maxRecDepth 100000 in
theorem write_no {w : World} {p g cap N : Nat} {l : List Int} (h : Arr w p g cap l) (hl : l.length = N * 32) (hN : N ≤ 512) {lba n : Int} (i1 : I64 lba) (i2 : I64 n) (hr : okR N lba n = false) (d : ByteArray) : Calls Try.prog 9 #[Ptr p, .int .i64 lba, .int .i64 n, .string d] w fun e w' => e = .returned (.int .i64 1) ∧ w' = w := by
  have hc := right_any h hl hN i1 i2
  rw [hr] at hc
  clear h hl hN i1 i2 hr
  go_enter Try.func9, Try.ntmps9
  go_wp2_with fail
  refine hc.mono ?_
  rintro e w1 ⟨rfl, e0⟩
  subst e0
  go_wp2_with fail
  go_ret
  exact ⟨rfl, rfl⟩
set_option maxRecDepth 100000 in
theorem trim_no {w : World} {p g cap N : Nat} {l : List Int} (h : Arr w p g cap l) (hl : l.length = N * 32) (hN : N ≤ 512) {lba n : Int} (i1 : I64 lba) (i2 : I64 n) (hr : okR N lba n = false) : Calls Try.prog 10 #[Ptr p, .int .i64 lba, .int .i64 n] w fun e w' => e = .returned (.int .i64 1) ∧ w' = w := by
  have hc := right_any h hl hN i1 i2
  rw [hr] at hc
  clear h hl hN i1 i2 hr
  go_enter Try.func10, Try.ntmps10
  go_wp2_with fail
  refine hc.mono ?_
  rintro e w1 ⟨rfl, e0⟩
  subst e0
  go_wp2_with fail
  go_ret
  exact ⟨rfl, rfl⟩
set_option maxRecDepth 100000 in
theorem trim_yes {w : World} {p g cap N : Nat} {l : List Int} (h : Arr w p g cap l) (hl : l.length = N * 32) (hN : N ≤ 512) {lba n : Nat} (hr : okR N lba n = true) : Calls Try.prog 10 #[Ptr p, .int .i64 (lba : Int), .int .i64 (n : Int)] w fun e w' => e = .returned (.int .i64 0) ∧ Arr w' p g cap (wrL l lba n []) ∧ Keep (fun k => k = g) w w' := by
  have hb := okR_bounds hN hr
  have hc := right_any h hl hN (i64_of_nat (n := lba) (by omega)) (i64_of_nat (n := n) (by omega))
  have hp := part_any h hl hN hr
  rw [hr] at hc
  have hcl := clear_some h.blk (lba * 32) (n * 32) (cap - lba * 32) (by omega) (by omega)
  have hk : Keep (fun k => k = g) w (w.setCells g (lba * 32) ((List.range (n * 32)).map fun _ => .int .u8 0)) := (Keep.refl (fun k => k = g) w).setCells (Or.inl rfl) _ _
  have hA : Arr (w.setCells g (lba * 32) ((List.range (n * 32)).map fun _ => .int .u8 0)) p g cap (wrL l lba n []) :=
    h.change hk ((h.blk.setCells (lba * 32) (n * 32) (fun _ => .int .u8 0) (by omega)).congr (fun i hi => by
      rw [wrL_get (by omega)]
      by_cases e : lba * 32 ≤ i ∧ i < lba * 32 + n * 32
      · rw [if_pos e, if_pos (by omega)]; simp
      · rw [if_neg e, if_neg (by omega)])) (wrL_len (by omega)) (wrL_b8 h.b8 (fun x hx => by simp at hx))
  generalize w.setCells g (lba * 32) ((List.range (n * 32)).map fun _ => .int .u8 0) = w2 at *
  generalize lba * 32 = A at *
  generalize n * 32 = M at *
  clear h hl hN hr hb
  go_enter Try.func10, Try.ntmps10
  go_wp2_with fail
  refine hc.mono ?_
  rintro e w1 ⟨rfl, e0⟩
  subst e0
  go_wp2_with fail
  refine hp.mono ?_
  rintro e w1 ⟨rfl, e0⟩
  subst e0
  go_wp2_with fail
  go_ret
  exact ⟨rfl, hA, hk⟩
set_option maxRecDepth 100000 in
theorem write_yes {w : World} {p g cap N : Nat} {l : List Int} (h : Arr w p g cap l) (hl : l.length = N * 32) (hN : N ≤ 512) {lba n : Nat} (hr : okR N lba n = true) (d : ByteArray) : Calls Try.prog 9 #[Ptr p, .int .i64 (lba : Int), .int .i64 (n : Int), .string d] w fun e w' => e = .returned (.int .i64 0) ∧ Arr w' p g cap (wrL l lba n (nums d)) ∧ Keep (fun k => k = g) w w' := by
  have hb := okR_bounds hN hr
  have hc := right_any h hl hN (i64_of_nat (n := lba) (by omega)) (i64_of_nat (n := n) (by omega))
  have hp := part_any h hl hN hr
  rw [hr] at hc
  have hrm := h.room
  have hcp := copy_str h.blk (lba * 32) (n * 32) (cap - lba * 32) (by omega) d
  have hB1 := h.blk.setCells (lba * 32) (min d.size (n * 32)) (fun i => .int .u8 ((nums d).getD i 0)) (by omega)
  have hk1 : Keep (fun k => k = g) w (w.setCells g (lba * 32) ((List.range (min d.size (n * 32))).map fun i => .int .u8 ((nums d).getD i 0))) := (Keep.refl (fun k => k = g) w).setCells (Or.inl rfl) _ _
  generalize w.setCells g (lba * 32) ((List.range (min d.size (n * 32))).map fun i => .int .u8 ((nums d).getD i 0)) = w1 at *
  have hkm : min d.size (n * 32) ≤ n * 32 := by omega
  have hnd := nums_len d
  by_cases hlt : min d.size (n * 32) < n * 32
  · have hcl := clear_some hB1 (lba * 32 + min d.size (n * 32)) (n * 32 - min d.size (n * 32)) (cap - lba * 32 - min d.size (n * 32)) (by omega) (by omega)
    have hB2 := hB1.setCells (lba * 32 + min d.size (n * 32)) (n * 32 - min d.size (n * 32)) (fun _ => .int .u8 0) (by omega)
    have hk2 : Keep (fun k => k = g) w (w1.setCells g (lba * 32 + min d.size (n * 32)) ((List.range (n * 32 - min d.size (n * 32))).map fun _ => .int .u8 0)) := hk1.setCells (Or.inl rfl) _ _
    have hA : Arr (w1.setCells g (lba * 32 + min d.size (n * 32)) ((List.range (n * 32 - min d.size (n * 32))).map fun _ => .int .u8 0)) p g cap (wrL l lba n (nums d)) :=
      h.change hk2 (hB2.congr (fun i hi => by
        rw [wrL_get (by omega)]
        by_cases e : lba * 32 ≤ i ∧ i < (lba + n) * 32
        · rw [if_pos e]
          by_cases e2 : lba * 32 + min d.size (n * 32) ≤ i
          · rw [if_pos (by omega)]
            have : (nums d).getD (i - lba * 32) 0 = 0 := by
              rw [List.getD_eq_getElem?_getD, List.getElem?_eq_none (by omega)]; rfl
            rw [this]
          · rw [if_neg (by omega), if_pos (by omega)]
        · rw [if_neg e, if_neg (by omega), if_neg (by omega)])) (wrL_len (by omega)) (wrL_b8 h.b8 (nums_b8 d))
    generalize w1.setCells g (lba * 32 + min d.size (n * 32)) ((List.range (n * 32 - min d.size (n * 32))).map fun _ => .int .u8 0) = w2 at *
    have d1 : n * 32 ≤ cap - lba * 32 := by omega
    have d2 : ¬ cap - lba * 32 = min d.size (n * 32) := by omega
    generalize min d.size (n * 32) = k at *
    generalize cap - lba * 32 = C at *
    generalize lba * 32 = A at *
    generalize n * 32 = M at *
    clear h hl hN hr hb hB1 hB2 hrm hnd hk1
    go_enter Try.func9, Try.ntmps9
    go_wp2_with fail
    refine hc.mono ?_
    rintro e wz ⟨rfl, e0⟩
    have e0 := e0.symm
    subst e0
    go_wp2_with fail
    refine hp.mono ?_
    rintro e wz ⟨rfl, e0⟩
    have e0 := e0.symm
    subst e0
    go_wp2_with fail
    go_ret
    exact ⟨rfl, hA, hk2⟩
  · have e0 : min d.size (n * 32) = n * 32 := by omega
    have hA : Arr w1 p g cap (wrL l lba n (nums d)) :=
      h.change hk1 (hB1.congr (fun i hi => by
        rw [wrL_get (by omega)]
        by_cases e : lba * 32 ≤ i ∧ i < (lba + n) * 32
        · rw [if_pos e, if_pos (by omega)]
        · rw [if_neg e, if_neg (by omega)])) (wrL_len (by omega)) (wrL_b8 h.b8 (nums_b8 d))
    rw [e0] at hcp
    have hcl := clear_none w1
    have d1 : n * 32 ≤ cap - lba * 32 := by omega
    generalize cap - lba * 32 = C at *
    generalize lba * 32 = A at *
    generalize n * 32 = M at *
    clear h hl hN hr hb hB1 hrm hnd e0 hlt hkm
    by_cases d2 : C = M
    · subst d2
      go_enter Try.func9, Try.ntmps9
      go_wp2_with fail
      refine hc.mono ?_
      rintro e wz ⟨rfl, e0⟩
      have e0 := e0.symm
      subst e0
      go_wp2_with fail
      refine hp.mono ?_
      rintro e wz ⟨rfl, e0⟩
      have e0 := e0.symm
      subst e0
      go_wp2_with fail
      go_ret
      exact ⟨rfl, hA, hk1⟩
    · go_enter Try.func9, Try.ntmps9
      go_wp2_with fail
      refine hc.mono ?_
      rintro e wz ⟨rfl, e0⟩
      have e0 := e0.symm
      subst e0
      go_wp2_with fail
      refine hp.mono ?_
      rintro e wz ⟨rfl, e0⟩
      have e0 := e0.symm
      subst e0
      go_wp2_with fail
      go_ret
      exact ⟨rfl, hA, hk1⟩
end Tg
end Go.Proofs.Ytikepmdlpalpfaa
