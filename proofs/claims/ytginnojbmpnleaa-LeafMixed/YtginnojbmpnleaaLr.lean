/-
  The document's own Cut, walked.
-/
import Derived.Test.YtginnojbmpnleaaLq
namespace Go.Proofs.Ytginnojbmpnleaa
open Go.ChangeShapes Go.WideShapes Go.ChangeAt Go.RowKit
namespace Tg
theorem make_pages0 (w : World) : (Instr.makeSlice 23 (.int .i64 0) (.int .i64 0)).run Try.prog w = .ok (.slice (some ⟨w.heap.size, 0, none⟩) 0 0) (w.alloc (.cells #[] 33)) := by kernel_rfl
theorem ro_made (w : World) : Ro w (w.alloc (.cells #[] 33)) (some ⟨w.heap.size, 0, none⟩) 0 [] :=
  ⟨World.ownsRow_lit (e := 33) (size := 39) (base := w.heap.size) w #[] 0 (Nat.le_refl _) (by unfold maxLen; omega) rfl, (Keep.refl _ _).alloc _⟩
theorem build_pg (p : Pg) (w : World) : (Instr.buildSlice 23 1 #[(0, .agg (pgA p))]).run Try.prog w = .ok (.slice (some ⟨w.heap.size, 0, none⟩) 1 1) (w.alloc (.cells (pgA p) 33)) := by kernel_rfl
theorem wpList_build_run {P : Program} {w : World} {ops : Array Oper} {rest : List Oper} {o : Oper} {a : Act} {Q : Exit → Act → World → Prop}
    (hw : Region.wanted o (yielded ops a.tmps) = true) (t : TypeId) (n : Nat) (x : Operand) (hop : o.op = Op.buildSlice t n #[(0, x)]) {v1 v' : Value} {w' : World} (hx : a.eval x = v1) (hrun : (Instr.buildSlice t n #[(0, v1)]).run P w = .ok v' w')
    (hK : wpList P ops Q rest (a.put o.dst v') w') : wpList P ops Q (o :: rest) a w := by
  refine BigFrame.wpList_want hw fun K hK' => ?_
  unfold Oper.wp
  simp [execOp, hop, hx, hrun, Result.andThen]
  exact hK' _ _ hK
/-- A page whose payload is laid as far as k. -/
def pgK (s : St) (i k : Nat) : Pg := { pgS s i with pay := (List.range 32).map (fun j => if j < k then s.bytes.getD (32 * i + j) 0 else 0) }
theorem pgK_end {s : St} {i k : Nat} (h : k = 32 ∨ s.bytes.length ≤ 32 * i + k) : pgK s i k = pgS s i := by
  unfold pgK pgS payOf
  simp only [Pg.mk.injEq, true_and]
  apply List.map_congr_left
  intro j hj
  simp at hj
  by_cases c : j < k
  · rw [if_pos c]
  · rw [if_neg c]
    have : s.bytes.length ≤ 32 * i + j := by omega
    simp [List.getD, this]
theorem pgK_zero (s : St) (i : Nat) : pgA (pgK s i 0) = #[.int .i64 s.kind, .int .u32 s.bytes.length, .int .u32 0, .int .u32 s.ep, .int .u32 s.gr, .int .u32 i, .int .u32 (npg s.bytes.length), .int .u8 0, .int .u8 0, .int .u8 0, .int .u8 0, .int .u8 0, .int .u8 0, .int .u8 0, .int .u8 0, .int .u8 0, .int .u8 0, .int .u8 0, .int .u8 0, .int .u8 0, .int .u8 0, .int .u8 0, .int .u8 0, .int .u8 0, .int .u8 0, .int .u8 0, .int .u8 0, .int .u8 0, .int .u8 0, .int .u8 0, .int .u8 0, .int .u8 0, .int .u8 0, .int .u8 0, .int .u8 0, .int .u8 0, .int .u8 0, .int .u8 0, .int .u8 0] := by
  rfl
theorem pgK_set {w : World} {b : Nat} {s : St} {i k : Nat} (h : Pv w b (pgK s i k)) (hk : k < 32) : Pv (w.setCell ⟨b, 7 + k, none⟩ (.int .u8 (s.bytes.getD (32 * i + k) 0))) b (pgK s i (k + 1)) := by
  refine Blk.congr (Blk.set h (7 + k) _) (fun j hj => ?_)
  have key : ∀ k' : Nat, 7 ≤ j → pcl (pgK s i k') j = .int .u8 (if j - 7 < k' then s.bytes.getD (32 * i + (j - 7)) 0 else 0) := fun k' h7 => by
    unfold pcl
    rw [if_neg (by omega), if_neg (by omega), if_neg (by omega), if_neg (by omega), if_neg (by omega), if_neg (by omega), if_neg (by omega)]
    unfold pgK
    simp only
    rw [List.getD_eq_getElem?_getD, List.getElem?_map, List.getElem?_range (by omega)]
    rfl
  by_cases e : j = 7 + k
  · subst e
    rw [if_pos rfl, key (k + 1) (by omega), show 7 + k - 7 = k by omega, if_pos (by omega)]
  · rw [if_neg e]
    by_cases h7 : 7 ≤ j
    · rw [key k h7, key (k + 1) h7]
      by_cases c : j - 7 < k
      · rw [if_pos c, if_pos (by omega)]
      · rw [if_neg c, if_neg (by omega)]
    · unfold pcl
      have : j = 0 ∨ j = 1 ∨ j = 2 ∨ j = 3 ∨ j = 4 ∨ j = 5 ∨ j = 6 := by omega
      rcases this with rfl | rfl | rfl | rfl | rfl | rfl | rfl <;> rfl
/-- The page of zeros. -/
def pg0 : Pg := ⟨0, 0, 0, 0, 0, 0, 0, List.replicate 32 0⟩
theorem pg0_lit : pgA pg0 = #[.int .i64 0, .int .u32 0, .int .u32 0, .int .u32 0, .int .u32 0, .int .u32 0, .int .u32 0, .int .u8 0, .int .u8 0, .int .u8 0, .int .u8 0, .int .u8 0, .int .u8 0, .int .u8 0, .int .u8 0, .int .u8 0, .int .u8 0, .int .u8 0, .int .u8 0, .int .u8 0, .int .u8 0, .int .u8 0, .int .u8 0, .int .u8 0, .int .u8 0, .int .u8 0, .int .u8 0, .int .u8 0, .int .u8 0, .int .u8 0, .int .u8 0, .int .u8 0, .int .u8 0, .int .u8 0, .int .u8 0, .int .u8 0, .int .u8 0, .int .u8 0, .int .u8 0] := rfl
theorem Pv.over {w : World} {b : Nat} {p : Pg} (h : Pv w b p) (q : Pg) : ∃ w', (Instr.storeAt 33 (.pointer (some ⟨b, 0, none⟩)) (.agg (pgA q))).run Try.prog w = .ok () w' ∧ Pv w' b q ∧ Keep (fun k => k = b) w w' := by
  have ht : w.there b 0 (pgA q).size := fun j hj => by rw [pgA_size] at hj; exact ⟨by rw [(h (0 + j) (by omega)).1]; rfl, (h (0 + j) (by omega)).2⟩
  refine ⟨_, run_storeAt_mid w b 0 33 (pgA q) ht (by rw [pgA_size]; exact size33) (all_oneCell_toArray (fun v hv => by simp at hv; obtain ⟨i, _, rfl⟩ := hv; exact pcl_one _ _)), ?_, (Keep.refl (fun k => k = b) w).setCells (b := b) (Or.inl rfl) _ _⟩
  exact Blk.congr (Blk.setCells h 0 39 (pcl q) (by omega)) (fun i hi => by rw [if_pos (by omega), Nat.sub_zero])
/-- A stream in a variable. -/
def Sv (w : World) (b : Nat) (k e g : Int) (a : Option Addr) (len cap : Nat) : Prop := Blk w b 4 (fun j => if j = 0 then .int .i64 k else if j = 1 then .int .u32 e else if j = 2 then .int .u32 g else .slice a len cap)
set_option maxRecDepth 100000 in
set_option maxHeartbeats 1000000 in
theorem rcut_any {w : World} {s : St} {a : Option Addr} {len cap : Nat} (hr : Row w a len cap s.bytes) (hlen : len ≤ 65536) :
    Calls Try.prog 12 #[.agg #[.int .i64 s.kind, .int .u32 s.ep, .int .u32 s.gr, .slice a len cap]] w fun e w' => ∃ a' c', e = .returned (.slice a' (cutL s).length c') ∧ Ro w w' a' c' (cutL s) := by
  have hl1 := hr.1
  have hsb : Sv (w.alloc (.cells #[.int .i64 s.kind, .int .u32 s.ep, .int .u32 s.gr, .slice a len cap] 36)) w.heap.size s.kind s.ep s.gr a len cap := blk_alloc w _ 36 4 _ (by intro k hk; rcases (by omega : k = 0 ∨ k = 1 ∨ k = 2 ∨ k = 3) with rfl | rfl | rfl | rfl <;> rfl)
  have hmk := make_pages0
  have hnp := npg_max hlen
  have hp1 := npg_pos len
  have hpg := fun w' => rpages_any (n := (len : Int)) w'
  rw [npI_nat hlen] at hpg
  have hls : (cutL s).length = npg len := by rw [cutL_len, hl1]
  rw [hls]
  have hcs : Hid (∀ i, i < npg len → (cutL s)[i]? = some (pgS s i)) := fun i hi => cutL_get s (by rw [hl1]; exact hi)
  have hls' : Hid ((cutL s).length = npg len) := hls
  have K1 := (Keep.refl (fun _ => False) w).alloc (.cells #[.int .i64 s.kind, .int .u32 s.ep, .int .u32 s.gr, .slice a len cap] 36)
  have R1 := (ro_made (w.alloc (.cells #[.int .i64 s.kind, .int .u32 s.ep, .int .u32 s.gr, .slice a len cap] 36))).older K1
  have S1 : Sv ((w.alloc (.cells #[.int .i64 s.kind, .int .u32 s.ep, .int .u32 s.gr, .slice a len cap] 36)).alloc (.cells #[] 33)) w.heap.size s.kind s.ep s.gr a len cap := Blk.keep hsb ((Keep.refl (fun _ => False) _).alloc _) (fun e => e)
  have c3 := (S1 3 (by omega)).1
  rw [show (w.alloc (.cells #[.int .i64 s.kind, .int .u32 s.ep, .int .u32 s.gr, .slice a len cap] 36)).heap.size = w.heap.size + 1 by simp] at R1
  have hbs : Hid (w.heap.size ≤ w.heap.size) := Nat.le_refl _
  generalize hb : w.heap.size = bs at S1 c3
  simp only [show ¬ (3 : Nat) = 0 by omega, show ¬ (3 : Nat) = 1 by omega, show ¬ (3 : Nat) = 2 by omega, ↓reduceIte] at c3
  clear hsb K1 hls
  generalize hN : npg len = N at *
  go_enter Try.func12, Try.ntmps12
  go_wp2_with fail
  refine (hpg _).mono ?_
  rintro e w2 ⟨rfl, e2⟩
  subst e2
  clear hpg hmk
  have ne1 : bs + 1 ≠ bs := by omega
  rw [hb] at R1
  go_wp2_with fail
  generalize (w.alloc (.cells #[.int .i64 s.kind, .int .u32 s.ep, .int .u32 s.gr, .slice a len cap] 36)).alloc (.cells #[] 33) = w3 at R1 S1 c3
  go_loopw [3, 5] (fun rv v wx => ∃ (i c : Nat) (a' : Option Addr), i ≤ N ∧ v = .int .i64 (i : Int) ∧ rv = .slice a' i c ∧ Ro w wx a' c ((cutL s).take i) ∧ Sv wx bs s.kind s.ep s.gr a len cap ∧ Hid (∀ g, a' = some ⟨g, 0, none⟩ → g ≠ bs)) (fun _ v _ => N - (intOf v).toNat)
  case atStart => exact ⟨0, 0, some ⟨bs + 1, 0, none⟩, by omega, rfl, rfl, R1, S1, fun g e => by injection e with e; injection e with e; omega⟩
  case round =>
    clear R1 S1 c3
    obtain ⟨i, c, a', hi, rfl, rfl, R, S, hne⟩ := hrel
    by_cases hlt : i < N
    · have c0 := (S 0 (by omega)).1
      have c1 := (S 1 (by omega)).1
      have c2 := (S 2 (by omega)).1
      have c3 := (S 3 (by omega)).1
      simp only [show ¬ (1 : Nat) = 0 by omega, show ¬ (2 : Nat) = 0 by omega, show ¬ (2 : Nat) = 1 by omega, show ¬ (3 : Nat) = 0 by omega, show ¬ (3 : Nat) = 1 by omega, show ¬ (3 : Nat) = 2 by omega, ↓reduceIte] at c0 c1 c2 c3
      have di : (i : Int) < (N : Int) := by omega
      have f1 : IntKind.u32.wrap (len : Int) = (len : Int) := by rw [IntKind.wrap_u32]; omega
      have f2 : IntKind.u32.wrap (i : Int) = (i : Int) := by rw [IntKind.wrap_u32]; omega
      have f3 : IntKind.u32.wrap (N : Int) = (N : Int) := by rw [IntKind.wrap_u32]; omega
      have Ka := (Keep.refl (fun _ => False) wr).alloc (.cells (pgA pg0) 33)
      obtain ⟨w4, hst, P4, K4⟩ := (Pv.new wr pg0).over (pgK s i 0)
      rw [pgK_zero, hl1, hN, pg0_lit] at hst
      go_upto_region 7 with (guard_target =~ wpList _ _ _ (Oper.mk _ (Op.store 33 _ _) _ _ _ _ :: _) _ _; refine wpList_store_run rfl 33 (.tmp 6) (.tmp 32) rfl (by rfl) (by rfl) hst ?_)
      clear hst c0 c1 c2 c3 f1 f2 f3
      have hsz : (wr.alloc (.cells (pgA pg0) 33)).heap.size = wr.heap.size + 1 := by simp
      have R4 : Ro w w4 a' c ((cutL s).take i) := (R.more Ka).other K4 (fun g e => by have := (R.block e).2; omega) (fun x e => by have := R.keep.size; omega)
      have S4 : Sv w4 bs s.kind s.ep s.gr a len cap := Blk.keep (Blk.keep S Ka (fun e => e)) K4 (by have := Blk.lt S (by omega); omega)
      have hbp : Hid (bs < wr.heap.size ∧ ∀ g, a' = some ⟨g, 0, none⟩ → g < wr.heap.size) := ⟨Blk.lt S (by omega), fun g e => (R.block e).2⟩
      have hbw : Hid (w.heap.size ≤ wr.heap.size) := R.keep.size
      clear R S Ka K4 hsz
      generalize wr.heap.size = bp at P4 hbp hbw
      obtain ⟨m, hm⟩ : ∃ m : Nat, m = i * 32 := ⟨_, rfl⟩
      have f5 : IntKind.i64.wrap ((i : Int) * 32) = (m : Int) := by rw [IntKind.wrap_i64]; omega
      have hmb : m ≤ 65536 := by omega
      have hm' : Hid (m = i * 32) := hm
      have hlt' : Hid (i < N) := hlt
      clear hm hlt
      go_wp2_with fail
      go_loopw [7] (fun v wx => ∃ k : Nat, k ≤ 32 ∧ v = .int .i64 (k : Int) ∧ Pv wx bp (pgK s i k) ∧ Keep (fun b => b = bp) w4 wx) (fun v _ => 32 - (intOf v).toNat)
      case atStart => exact ⟨0, by omega, rfl, P4, Keep.refl _ _⟩
      case round =>
        clear P4
        obtain ⟨k, hk, rfl, P5, K5⟩ := hrel
        have S5 : Sv wr bs s.kind s.ep s.gr a len cap := Blk.keep S4 K5 (by have := hbp.1; omega)
        have R5 : Ro w wr a' c ((cutL s).take i) := R4.other K5 (fun g e => by have := hbp.2 g e; omega) (fun x e => by rw [e]; exact hbw)
        have c3 := (S5 3 (by omega)).1
        simp only [show ¬ (3 : Nat) = 0 by omega, show ¬ (3 : Nat) = 1 by omega, show ¬ (3 : Nat) = 2 by omega, ↓reduceIte] at c3
        obtain ⟨q, hq⟩ : ∃ q : Nat, q = m + k := ⟨_, rfl⟩
        have f6 : IntKind.i64.wrap ((m : Int) + (k : Int)) = (q : Int) := by rw [IntKind.wrap_i64]; omega
        have hq' : Hid (q = m + k) := hq
        clear hq
        by_cases hin : k < 32 ∧ q < len
        · obtain ⟨h1, h2⟩ := hin
          have d1 : (k : Int) < 32 := by omega
          have d2 : (q : Int) < (len : Int) := by omega
          have dw := wrapI (x := (k : Int) + 1) (by omega) (by omega)
          obtain ⟨b0, o0, rfl, hcell⟩ := (hr.moreV R5.keep).2.2.2.2.resolve_left (by omega)
          have cq := hcell q h2
          have hset := pgK_set P5 h1
          have hqq : s.bytes.getD (32 * i + k) 0 = s.bytes.getD q 0 := by rw [show q = m + k from hq', show m = i * 32 from hm', Nat.mul_comm]
          rw [hqq] at hset
          have hp7 := (P5 (7 + k) (by omega)).1
          have hpf := (P5 (7 + k) (by omega)).2
          have hk1 : Hid (k + 1 ≤ 32) := h1
          have Kn := K5.setCell (p := ⟨bp, 7 + k, none⟩) (Or.inl rfl) (.int .u8 (s.bytes.getD q 0))
          generalize s.bytes.getD q 0 = V at cq hset Kn
          clear hcell hqq P5 K5 S5 R5 R4 S4
          go_wp2_with fail
          go_roundw
          case rel => exact ⟨k + 1, hk1, by go_num, hset, Kn⟩
          case measure => have : k + 1 ≤ 32 := hk1; simp [intOf]; omega
        · have hend : pgK s i k = pgS s i := pgK_end (by rw [hl1]; have := show q = m + k from hq'; have := show m = i * 32 from hm'; omega)
          rw [hend] at P5
          have dw := wrapI (x := (i : Int) + 1) (by omega) (by omega)
          have hil : ((cutL s).take i).length = i := by rw [List.length_take, show (cutL s).length = N from hls']; omega
          obtain ⟨a6, c6, w6, hrun, R6, K6, h6⟩ := R5.app1 (by omega) (pgS s i)
          rw [hil] at hrun
          have hnext : (cutL s).take i ++ [pgS s i] = (cutL s).take (i + 1) := by
            rw [List.take_add_one, (show ∀ i, i < N → (cutL s)[i]? = some (pgS s i) from hcs) i hlt']; rfl
          rw [hnext] at R6
          have S6 : Sv w6 bs s.kind s.ep s.gr a len cap := Blk.keep S5 K6 (fun e => (show ∀ g, a' = some ⟨g, 0, none⟩ → g ≠ bs from hne) bs e rfl)
          have hne6 : Hid (∀ g, a6 = some ⟨g, 0, none⟩ → g ≠ bs) := fun g e => by
            rcases h6 with rfl | ⟨g6, rfl, hg6⟩
            · exact (show ∀ g, a6 = some ⟨g, 0, none⟩ → g ≠ bs from hne) g e
            · injection e with e; injection e with e
              have := Blk.lt S5 (by omega)
              omega
          have hld := P5.load
          clear hend hil hnext P5 S5 R5 R4 S4 K5 K6 h6 hbp hbw
          have hbd := build_pg (pgS s i) wr
          generalize pgA (pgS s i) = A at hld hrun hbd
          by_cases h1 : k < 32
          · have d1 : (k : Int) < 32 := by omega
            have d2 : ¬ (q : Int) < (len : Int) := by omega
            clear hin
            go_wp2_with (first | (guard_target =~ wpList _ _ _ (Oper.mk _ (Op.load 33 _) _ _ _ _ :: _) _ _; refine wpList_load_run (by rfl) 33 (.tmp 6) rfl (by rfl) hld ?_) | (guard_target =~ wpList _ _ _ (Oper.mk _ (Op.buildSlice _ _ _) _ _ _ _ :: _) _ _; refine wpList_build_run (by rfl) 23 1 (.tmp 59) rfl (by rfl) hbd ?_) | (at_builtin; refine wpList_append_run rfl (.tmp 58) (.tmp 60) 23 rfl (by rfl) (by rfl) hrun ?_))
            go_roundw
            case rel => exact ⟨i + 1, c6, a6, hlt', by go_num, rfl, R6, S6, hne6⟩
            case measure => have : i < N := hlt'; simp [intOf]; omega
          · have d1 : ¬ (k : Int) < 32 := by omega
            clear hin
            go_wp2_with (first | (guard_target =~ wpList _ _ _ (Oper.mk _ (Op.load 33 _) _ _ _ _ :: _) _ _; refine wpList_load_run (by rfl) 33 (.tmp 6) rfl (by rfl) hld ?_) | (guard_target =~ wpList _ _ _ (Oper.mk _ (Op.buildSlice _ _ _) _ _ _ _ :: _) _ _; refine wpList_build_run (by rfl) 23 1 (.tmp 59) rfl (by rfl) hbd ?_) | (at_builtin; refine wpList_append_run rfl (.tmp 58) (.tmp 60) 23 rfl (by rfl) (by rfl) hrun ?_))
            go_roundw
            case rel => exact ⟨i + 1, c6, a6, hlt', by go_num, rfl, R6, S6, hne6⟩
            case measure => have : i < N := hlt'; simp [intOf]; omega
    · obtain rfl : i = N := by omega
      rw [List.take_of_length_le (by rw [show (cutL s).length = i from hls']; omega)] at R
      clear hlt hcs
      go_wp2_with fail
      go_ret
      exact ⟨a', c, rfl, R⟩
end Tg
end Go.Proofs.Ytginnojbmpnleaa
