/-
  What Image tells: all pages' bytes and two bytes for each block: any flash.
-/
import Derived.Test.YtjafjofonckaaaaWalkD
namespace Go.Proofs.Ytjafjofonckaaaa
open Go.ChangeShapes Go.WideShapes Go.ChangeAt Go.RowKit
namespace Nd

theorem enters {P : Program} {f : FuncId} {fn : Func} (hf : P.funcs[f]? = some fn) (hname : (fn.name == "runtime.NumGoroutine") = false) (hb : fn.body.isSome = true) (args : Array Value) (w : World) :
    (callFunc f args).run P w = .ok (.enter f args) w := by
  obtain ⟨c, hc⟩ := Option.isSome_iff_exists.1 hb
  simp [callFunc, go_sem, hf, hc]
  intro h; simp [h] at hname
theorem call47 (args : Array Value) (w : World) : (callFunc 47 args).run Try.prog w = .ok (.enter 47 args) w := enters Try.func47 (by kernel_rfl) (by kernel_rfl) args w
theorem call48 (args : Array Value) (w : World) : (callFunc 48 args).run Try.prog w = .ok (.enter 48 args) w := enters Try.func48 (by kernel_rfl) (by kernel_rfl) args w

/-- A call whose answer and world are known, as one step of a region that draws. -/
theorem step_call_run {P : Program} {ops : Array Oper} {o : Oper} {a : Act} {w : World} {K : Act → World → Prop} {Q : Exit → Act → World → Prop} {E : Prop}
    (hg : o.guard = none) (f : FuncId) (xs : Array Operand) (ts : Array TypeId) (hop : o.op = Op.call { callee := Callee.value (.func f), args := xs, argTypes := ts })
    {vs : Array Value} {v' : Value} {w' : World} (hx : xs.map a.eval = vs) (he : ∀ args w, (callFunc f args).run P w = .ok (.enter f args) w) (hc : Calls P f vs w fun e w2 => e = .returned v' ∧ w2 = w')
    (hK : K (a.put o.dst v') w') : if Region.wanted o (yielded ops a.tmps) = true then Oper.wp P o a w K Q else E := by
  have hw : Region.wanted o (yielded ops a.tmps) = true := by simp [Region.wanted, hg]
  rw [if_pos hw]
  subst hx
  obtain ⟨dst, op, ty, pos, after, guard⟩ := o
  simp only at hop
  subst hop
  unfold Oper.wp
  rw [execOp_call_go, he, Oper.upon_enter]
  simp only [Array.empty_append, Array.append_empty]
  exact hc.mono (by rintro e w2 ⟨rfl, rfl⟩; exact hK)

theorem step_append_run {P : Program} {ops : Array Oper} {o : Oper} {a : Act} {w : World} {K : Act → World → Prop} {Q : Exit → Act → World → Prop} {E : Prop}
    (hg : o.guard = none) (d s : Operand) (t : TypeId) (hop : o.op = Op.call { callee := Callee.builtin Builtin.append, args := #[d, s], argTypes := #[t, t] })
    {v1 v2 v' : Value} {w' : World} (hd : a.eval d = v1) (hs : a.eval s = v2) (hrun : (Builtin.append_ #[t, t] o.type #[v1, v2]).run P w = .ok v' w')
    (hK : K (a.put o.dst v') w') : if Region.wanted o (yielded ops a.tmps) = true then Oper.wp P o a w K Q else E := by
  have hw : Region.wanted o (yielded ops a.tmps) = true := by simp [Region.wanted, hg]
  rw [if_pos hw]
  unfold Oper.wp
  simp [execOp, hop, resolve, invoke, builtin, hd, hs, hrun, Result.andThen]
  exact hK

theorem row_two {w : World} (x y : Int) (hx : 0 ≤ x ∧ x ≤ 255) (hy : 0 ≤ y ∧ y ≤ 255) (g : Nat) (hg : g = w.heap.size) :
    Row (w.alloc (.cells #[.int .u8 x, .int .u8 y] 5)) (some ⟨g, 0, none⟩) 2 2 [x, y] :=
  row_new w [x, y] (0, 0) g 2 hg (by simp) (by omega) (by simp; exact ⟨hx, hy⟩)

theorem Fl.image_two (s : Fl) (q : Nat) : tab (s.B * s.P * 68 + 2 * q) s.image ++ [s.mark q, (s.next q : Int)] = tab (s.B * s.P * 68 + 2 * q + 2) s.image := by
  have e : [s.mark q, (s.next q : Int)] = tab 2 (fun i => if i = 0 then s.mark q else s.next q) := rfl
  rw [e, tab_append]
  apply tab_congr
  intro i hi
  by_cases h : i < s.B * s.P * 68 + 2 * q
  · rw [if_pos h]
  · rw [if_neg h]
    unfold Fl.image
    generalize s.B * s.P * 68 = n at *
    rw [if_neg (show ¬ i < n by omega)]
    by_cases h0 : i = n + 2 * q
    · rw [if_pos (show i - (n + 2 * q) = 0 by omega), if_pos (show (i - n) % 2 = 0 by omega), show (i - n) / 2 = q by omega]
    · rw [if_neg (show ¬ i - (n + 2 * q) = 0 by omega), if_neg (show ¬ (i - n) % 2 = 0 by omega), show (i - n) / 2 = q by omega]

theorem info28 : (Try.prog.info? 5).map (fun i => (i.zero, i.size, i.bytes)) = some (some (.int .u8 0), 1, 1) := by kernel_rfl

/-- What an image has come to behind q blocks. -/
structure Im (w : World) (p c k : Nat) (s : Fl) (q g cap : Nat) (wr : World) : Prop where
  mem : Mem wr p c k s
  row : Row wr (some ⟨g, 0, none⟩) (s.B * s.P * 68 + 2 * q) cap (tab (s.B * s.P * 68 + 2 * q) s.image)
  free : Free wr g cap
  new : w.heap.size ≤ g
  keep : Keep (fun _ => False) w wr

theorem image_any {w : World} {p c k N : Nat} {s : Fl} (h : Mem w p c k s) (ok : s.Ok N) :
    Calls Try.prog 27 #[.pointer (some ⟨p, 0, none⟩)] w fun e w' => ∃ g cap, e = .returned (.slice (some ⟨g, 0, none⟩) s.size cap) ∧ w.heap.size ≤ g ∧ Row w' (some ⟨g, 0, none⟩) s.size cap (tab s.size s.image) ∧ Free w' g cap ∧ Mem w' p c k s ∧ Keep (fun _ => False) w w' := by
  have H := bytes_any h ok.b2 ok.p2
  have hm0 : s.B * s.P ≤ 64 * 32 := Nat.mul_le_mul ok.b2 ok.p2
  have hsz : s.size ≤ 139392 := by have := ok.b2; unfold Fl.size; omega
  have hmk : ∀ w, (Instr.makeSlice 28 (.int .i64 0) (.int .i64 s.size)).run Try.prog w = .ok (.slice (some ⟨w.heap.size, 0, none⟩) 0 s.size) (w.alloc (.cells (madeCells #[.int .u8 0] s.size) 5)) := by
    intro w
    obtain ⟨i, hi, hz0, hz1, hz2⟩ := info_parts info5
    have := run_make (P := Try.prog) w 28 5 i (.int .u8 0) Try.underlying28 hi hz0 .i64 .i64 0 s.size (by omega) (by omega) (by rw [hz2]; omega) (by omega)
    rw [this, hz1]
    simp [Value.cells]
  go_enter Try.func27, Try.ntmps27
  go_wp2_with fail
  refine H.mono ?_
  rintro e w1 ⟨rfl, hm, hk⟩
  have hl1 := hm.top.lt (by omega)
  have hmA := hm.alloc (.cells (madeCells #[.int .u8 0] s.size) 5)
  obtain ⟨t0, t1, t2, t3, t4, t5⟩ := hmA.tops
  obtain ⟨g2, cap2, w2, hrun, hrow, hk2, hg, hf⟩ := append_rows (w1.alloc (.cells (madeCells #[.int .u8 0] s.size) 5)) w1.heap.size s.size 0 [] ⟨rfl, by omega, by omega, by simp, Or.inl rfl⟩
    (fun i hi => by
      have hr := World.rowIs_made w1 (.int .u8 0) s.size 5
      exact ⟨by rw [hr.cell hi]; rfl, hr.frozen i⟩) (some ⟨c, 0, none⟩) (s.B * s.P * 68) (s.B * s.P * 68) (tab (s.B * s.P * 68) fun i => s.cell (0 + i)) (hmA.cel.row ok.cell 0 _ _ (by omega) (by omega) (by omega)) (by omega)
  rw [Nat.zero_add] at hrun hrow
  rw [List.nil_append] at hrow
  have hlp := h.top.lt (by omega)
  have hlc := h.cel.lt (Nat.mul_pos (Nat.mul_pos ok.b1 ok.p1) (by omega))
  have hlk := h.blk.lt (by have := ok.b1; omega)
  have hks := hk.size
  have hm2 := hmA.keep hk2 (by omega) (by omega) (by omega)
  have I0 : Im w p c k s 0 g2 cap2 w2 := ⟨hm2, by
    have e : (tab (s.B * s.P * 68) fun i => s.cell (0 + i)) = tab (s.B * s.P * 68) s.image := tab_congr (fun i hi => by rw [Nat.zero_add, Fl.image, if_pos hi])
    rw [e] at hrow; exact hrow, hf, by (rcases hg with rfl | hg); (exact hks); (simp at hg; omega), (hk.alloc _).next hk2 (fun x hx e => by omega)⟩
  obtain ⟨u0, u1, u2, u3, u4, u5⟩ := hm2.tops
  clear hrow hk2 hg hf hmA hm hk H h hm2 u0 u1 u3 u4 u5
  go_wp2_with (refine wpList_append_run rfl (.tmp 9) (.tmp 13) 28 rfl (by rfl) (by rfl) hrun ?_)
  clear hrun t0 t1 t2 t3 t4 t5
  go_loopw [20, 3] (fun i v wr => ∃ q g cap : Nat, q ≤ s.B ∧ i = .int .i64 q ∧ v = .slice (some ⟨g, 0, none⟩) (s.B * s.P * 68 + 2 * q) cap ∧ Im w p c k s q g cap wr) (fun i _ _ => s.B - (intOf i).toNat)
  case atStart => exact ⟨0, g2, cap2, by omega, rfl, rfl, I0⟩
  case round =>
    obtain ⟨q, g, cap, hq, rfl, rfl, hI⟩ := hrel
    clear I0 u2
    by_cases hlt : q < s.B
    · obtain ⟨b0, b1, b2, b3, g0, g1, g2', g3⟩ := hI.mem.at hlt
      have hkl := hI.mem.blk.lt (by omega)
      have c0 : (q : Int) < s.B := by omega
      have hB := ok.b2
      have hmk0 := marks_any (w := (wr.alloc (.cells #[.bool (s.bad q), .bool (s.torn q), .int .i64 (s.next q), .int .i64 (s.wear q)] 71)).drew) (s.bad q) (s.torn q) (s.next q) (s.wear q)
      have hmark : (if s.bad q then 1 else 0) + (if s.torn q then 2 else 0) = s.mark q := rfl
      rw [hmark] at hmk0
      have hmb : 0 ≤ s.mark q ∧ s.mark q ≤ 255 := by unfold Fl.mark; (split <;> split) <;> omega
      have hnx : s.next q ≤ 32 := Nat.le_trans (ok.next q) ok.p2
      have hgl : g < wr.heap.size := by
        have := hI.row.cellAt (i := 0) (by have := Nat.mul_pos (Nat.mul_pos ok.b1 ok.p1) (show 0 < 68 by omega); omega)
        exact World.block_lt_of_cell? wr _ this
      have hkA : Keep (fun b => b = wr.heap.size) wr ((((wr.alloc (.cells #[.bool (s.bad q), .bool (s.torn q), .int .i64 (s.next q), .int .i64 (s.wear q)] 71)).alloc (.cells #[.bool (s.bad q), .bool (s.torn q), .int .i64 (s.next q), .int .i64 (s.wear q)] 71)).alloc (.cells #[.int .u8 (s.mark q), .int .u8 (s.next q)] 5)).drew) := (((Keep.refl _ _).alloc _).alloc _).alloc _ |>.drew
      have hsz3 : ((wr.alloc (.cells #[.bool (s.bad q), .bool (s.torn q), .int .i64 (s.next q), .int .i64 (s.wear q)] 71)).alloc (.cells #[.bool (s.bad q), .bool (s.torn q), .int .i64 (s.next q), .int .i64 (s.wear q)] 71)).heap.size = wr.heap.size + 1 + 1 := by simp
      have hw8 : IntKind.u8.wrap (s.next q : Int) = (s.next q : Int) := by rw [IntKind.wrap_u8]; omega
      obtain ⟨g', cap', w3, hrun, hrow, hk3, hg3, hf3⟩ := append_rows ((((wr.alloc (.cells #[.bool (s.bad q), .bool (s.torn q), .int .i64 (s.next q), .int .i64 (s.wear q)] 71)).alloc (.cells #[.bool (s.bad q), .bool (s.torn q), .int .i64 (s.next q), .int .i64 (s.wear q)] 71)).alloc (.cells #[.int .u8 (s.mark q), .int .u8 (s.next q)] 5)).drew) g cap _ _ (hI.row.keep hkA (fun b o e => by simp at e; omega)) (hI.free.keep hkA (by omega)) (some ⟨wr.heap.size + 1 + 1, 0, none⟩) 2 2 [s.mark q, (s.next q : Int)]
        (row_two (w := (wr.alloc (.cells #[.bool (s.bad q), .bool (s.torn q), .int .i64 (s.next q), .int .i64 (s.wear q)] 71)).alloc (.cells #[.bool (s.bad q), .bool (s.torn q), .int .i64 (s.next q), .int .i64 (s.wear q)] 71)) _ _ hmb (by omega) _ hsz3.symm) (by have := ok.b2; omega)
      have hlp2 := hI.mem.top.lt (by omega)
      have hlc2 := hI.mem.cel.lt (Nat.mul_pos (Nat.mul_pos ok.b1 ok.p1) (by omega))
      have hgn := hI.new
      have hsX : ((((wr.alloc (.cells #[.bool (s.bad q), .bool (s.torn q), .int .i64 (s.next q), .int .i64 (s.wear q)] 71)).alloc (.cells #[.bool (s.bad q), .bool (s.torn q), .int .i64 (s.next q), .int .i64 (s.wear q)] 71)).alloc (.cells #[.int .u8 (s.mark q), .int .u8 (s.next q)] 5)).drew).heap.size = wr.heap.size + 1 + 1 + 1 := by simp [World.drew]
      have hgnp : ¬ p = g ∧ ¬ c = g ∧ ¬ k = g := by omega
      have hwr := hI.keep.size
      have I1 : Im w p c k s (q + 1) g' cap' w3 := ⟨((hI.mem.keep hkA (by omega) (by omega) (by omega)).keep hk3 hgnp.1 hgnp.2.1 hgnp.2.2), by
        rw [Fl.image_two] at hrow; exact hrow, hf3, by (rcases hg3 with rfl | hg3); (exact hgn); (rw [hsX] at hg3; omega),
        (hI.keep.next hkA (fun x hx e => by omega)).next hk3 (fun x hx e => by omega)⟩
      clear hkA hrow hk3 hg3 hf3 hI hlp2 hlc2 hgn hgnp hsX hwr
      go_wp2_with fail
      go_region_law (first | refine step_append_run rfl (.tmp 24) (.tmp 30) 28 rfl (by rfl) (by rfl) hrun ?_ | refine step_call_run rfl 47 #[.tmp 25] #[71] rfl (by simp [Act.eval, Act.put]) call47 hmk0 ?_)
      all_goals
        clear hrun hmk0
        go_wp2_with fail
        go_roundw
        case rel => exact ⟨q + 1, g', cap', by omega, by go_num, rfl, I1⟩
        case measure => simp [intOf]; omega
    · obtain rfl : q = s.B := by omega
      go_wp2_with fail
      go_ret
      exact ⟨g, cap, rfl, hI.new, hI.row, hI.free, hI.mem, hI.keep⟩
end Nd
end Go.Proofs.Ytjafjofonckaaaa
