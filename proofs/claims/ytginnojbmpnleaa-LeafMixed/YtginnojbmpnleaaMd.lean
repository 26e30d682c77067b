/-
  The program's Cut, walked.
-/
import Derived.Test.YtginnojbmpnleaaMc
import Derived.Test.YtginnojbmpnleaaLu
namespace Go.Proofs.Ytginnojbmpnleaa
open Go.ChangeShapes Go.WideShapes Go.ChangeAt Go.RowKit
namespace Tg
/-- A block of n pages of one's own. -/
def Pb (w : World) (g n : Nat) (f : Nat → Pg) : Prop := Blk w g (n * 39) (fun c => pcl (f (c / 39)) (c % 39))
theorem make_pages (n : Nat) (hn : n ≤ 4096) (w : World) : ∃ w', (Instr.makeSlice 23 (.int .i64 (n : Int)) (.int .i64 (n : Int))).run Try.prog w = .ok (.slice (some ⟨w.heap.size, 0, none⟩) n n) w' ∧ Pb w' w.heap.size n (fun _ => pg0) ∧ Keep (fun _ => False) w w' := by
  obtain ⟨i, z, hi, hz0, hz1, hz2, hz3⟩ := inf33
  have hr := run_make (P := Try.prog) w 23 33 i z Try.underlying23 hi hz0 .i64 .i64 n n (by omega) (Int.le_refl _) (by rw [hz2]; omega) (by omega)
  simp only [Int.toNat_natCast, hz1] at hr
  have hzc : z.cells = pgA pg0 := by
    have h : (Try.prog.info? 33).bind (fun i => i.zero.map (·.cells)) = some (pgA pg0) := by rw [pg0_lit]; kernel_rfl
    rw [hi, Option.bind_some, hz0, Option.map_some] at h
    injection h
  refine ⟨_, hr, ?_, (Keep.refl _ _).alloc _⟩
  refine blk_alloc w _ 33 (n * 39) _ (fun c hc => ?_)
  rw [hzc]
  unfold madeCells
  rw [Array.getElem?_map, Array.getElem?_range, if_pos hc, Option.map_some, pgA_size]
  congr 1
  have := pgA_get pg0 (c % 39) (by omega)
  rw [getElem!_def, this]
theorem Pb.setPage {w : World} {g n : Nat} {f : Nat → Pg} (h : Pb w g n f) {i : Nat} (hi : i < n) (q : Pg) : Pb (w.setCells g (i * 39) (pgA q).toList) g n (fun k => if k = i then q else f k) := by
  refine Blk.congr (Blk.setCells h (i * 39) 39 (pcl q) (by omega)) (fun c hc => ?_)
  show _ = pcl (if c / 39 = i then q else f (c / 39)) (c % 39)
  by_cases e : c / 39 = i
  · rw [if_pos e, if_pos (by omega), show c - i * 39 = c % 39 by omega]
  · rw [if_neg e, if_neg (by omega)]
theorem Pb.store {w : World} {g n : Nat} {f : Nat → Pg} (h : Pb w g n f) {i : Nat} (hi : i < n) (q : Pg) : (Instr.storeAt 33 (.pointer (some ⟨g, i * 39, none⟩)) (.agg (pgA q))).run Try.prog w = .ok () (w.setCells g (i * 39) (pgA q).toList) :=
  run_storeAt_mid w g (i * 39) 33 (pgA q) (fun j hj => by rw [pgA_size] at hj; exact ⟨by rw [(h (i * 39 + j) (by omega)).1]; rfl, (h (i * 39 + j) (by omega)).2⟩) (by rw [pgA_size]; exact size33) (all_oneCell_toArray (fun v hv => by simp at hv; obtain ⟨i, _, rfl⟩ := hv; exact pcl_one _ _))
theorem Pb.rg {w : World} {g n : Nat} {f : Nat → Pg} (h : Pb w g n f) (hn : n ≤ 4096) : Rg w (some ⟨g, 0, none⟩) n ((List.range n).map f) := by
  refine ⟨by simp, by omega, Or.inr ⟨g, 0, rfl, fun i p hp j hj => ?_⟩⟩
  have hi : i < n := by have := (List.getElem?_eq_some_iff.1 hp).1; simpa using this
  have e : f i = p := by simpa [hi] using hp
  rw [Nat.zero_add, (h (i * 39 + j) (by omega)).1]
  show some (pcl (f ((i * 39 + j) / 39)) ((i * 39 + j) % 39)) = _
  rw [show (i * 39 + j) / 39 = i by omega, show (i * 39 + j) % 39 = j by omega, e]
theorem pcl_pay7 (p : Pg) {j : Nat} (h7 : 7 ≤ j) : pcl p j = .int .u8 (p.pay.getD (j - 7) 0) := by
  unfold pcl
  rw [if_neg (by omega), if_neg (by omega), if_neg (by omega), if_neg (by omega), if_neg (by omega), if_neg (by omega), if_neg (by omega)]
/-- So many bytes are copied into a page's payload. -/
theorem Pb.copy {w : World} {g n : Nat} {f : Nat → Pg} (h : Pb w g n f) {i : Nat} (hi : i < n) {s : St} (hf : f i = pgK s i 0) (m : Nat) (hm : m ≤ 32) :
    Pb (w.setCells g (i * 39 + 7) ((List.range m).map (fun k => .int .u8 (s.bytes.getD (32 * i + k) 0)))) g n (fun k => if k = i then pgK s i m else f k) := by
  refine Blk.congr (Blk.setCells h (i * 39 + 7) m _ (by omega)) (fun c hc => ?_)
  have key : ∀ k' j : Nat, 7 ≤ j → j < 39 → pcl (pgK s i k') j = .int .u8 (if j - 7 < k' then s.bytes.getD (32 * i + (j - 7)) 0 else 0) := fun k' j h7 h39 => by
    rw [pcl_pay7 _ h7]
    unfold pgK
    simp only
    rw [List.getD_eq_getElem?_getD, List.getElem?_map, List.getElem?_range (by omega)]
    rfl
  show _ = pcl (if c / 39 = i then pgK s i m else f (c / 39)) (c % 39)
  by_cases e : c / 39 = i
  · rw [if_pos e]
    by_cases h7 : 7 ≤ c % 39
    · rw [key m (c % 39) h7 (by omega)]
      by_cases c1 : c % 39 - 7 < m
      · rw [if_pos (by omega), if_pos c1, show c - (i * 39 + 7) = c % 39 - 7 by omega]
      · rw [if_neg (by omega), if_neg c1, e, hf, key 0 (c % 39) h7 (by omega), if_neg (by omega)]
    · rw [if_neg (by omega), e, hf]
      have : c % 39 = 0 ∨ c % 39 = 1 ∨ c % 39 = 2 ∨ c % 39 = 3 ∨ c % 39 = 4 ∨ c % 39 = 5 ∨ c % 39 = 6 := by omega
      unfold pcl
      rcases this with e | e | e | e | e | e | e <;> rw [e] <;> rfl
  · rw [if_neg e, if_neg (by omega)]
theorem step_copy_run {P : Program} {ops : Array Oper} {o : Oper} {a : Act} {w : World} {K : Act → World → Prop} {Q : Exit → Act → World → Prop} {E : Prop}
    (hw : Region.wanted o (yielded ops a.tmps) = true) (d s : Operand) (t : TypeId) (hop : o.op = Op.call { callee := Callee.builtin Builtin.copy, args := #[d, s], argTypes := #[t, t] })
    {v1 v2 v' : Value} {w' : World} (hd : a.eval d = v1) (hs : a.eval s = v2) (hrun : (Builtin.copy_ #[t, t] o.type #[v1, v2]).run P w = .ok v' w')
    (hK : K (a.put o.dst v') w') : if Region.wanted o (yielded ops a.tmps) = true then Oper.wp P o a w K Q else E := by
  rw [if_pos hw]
  unfold Oper.wp
  simp [execOp, hop, resolve, invoke, builtin, hd, hs, hrun, Result.andThen]
  exact hK
theorem size5' : (Try.prog.info? 5).map (·.size) = some 1 := by kernel_rfl
/-- Bytes are copied from anywhere into a block. -/
theorem run_copy_b {w : World} {c N : Nat} {f : Nat → Value} {dd : Nat → Int} (h : Blk w c N f) (o n : Nat) (hn : o + n ≤ N) {a : Addr} (hd : ∀ i, i < n → w.cell? (a.add i) = some (.int .u8 (dd i)))
    (dLen dCap sLen sCap : Nat) (hl : Nat.min sLen dLen = n) :
    (Builtin.copy_ #[28, 28] 3 #[.slice (some ⟨c, o, none⟩) dLen dCap, .slice (some a) sLen sCap]).run Try.prog w = .ok (.int .i64 n) (w.setCells c o ((List.range n).map fun i => .int .u8 (dd i))) := by
  have := run_copy_cells (P := Try.prog) w 28 28 3 5 c o dLen dCap a sLen sCap ((List.range n).map fun i => .int .u8 (dd i)) Try.underlying28 size5' (by simp [hl])
    (fun j v hv => by
      have hj : j < n := by have := (List.getElem?_eq_some_iff.1 hv).1; simpa using this
      rw [hd j hj, ← hv]; simp [hj])
    (fun j hj => by simp at hj; rw [(h (o + j) (by omega)).1]; rfl) (fun j hj => by simp at hj; exact (h (o + j) (by omega)).2) (fun v hv => by simp at hv; obtain ⟨_, _, rfl⟩ := hv; rfl)
  rw [this]; simp [goInt]
set_option maxRecDepth 100000 in
set_option maxHeartbeats 1000000 in
theorem cut_body {w : World} {s : St} {a : Option Addr} {len cap : Nat} (hr : Row w a len cap s.bytes) (hlen : len ≤ 65536) (hk : knB s.kind = true) :
    Calls Try.prog 9 #[.agg #[.int .i64 s.kind, .int .u32 s.ep, .int .u32 s.gr, .slice a len cap]] w fun e w' => ∃ a' c', e = .returned (.tuple #[.slice a' (cutL s).length c', .int .i64 0]) ∧ Rg w' a' c' (cutL s) ∧ Keep (fun _ => False) w w' := by
  have hl1 := hr.1
  have hsb : Sv (w.alloc (.cells #[.int .i64 s.kind, .int .u32 s.ep, .int .u32 s.gr, .slice a len cap] 30)) w.heap.size s.kind s.ep s.gr a len cap := blk_alloc w _ 30 4 _ (by intro k hk; rcases (by omega : k = 0 ∨ k = 1 ∨ k = 2 ∨ k = 3) with rfl | rfl | rfl | rfl <;> rfl)
  have hnp := npg_max hlen
  have hp1 := npg_pos len
  have hpg := fun w' => pages_any (len : Int) w'
  rw [npI_nat hlen] at hpg
  have hkn := fun w' => known_any s.kind w'
  rw [hk] at hkn
  have hls : (cutL s).length = npg len := by rw [cutL_len, hl1]
  have hcl : cutL s = (List.range (npg len)).map (pgS s) := by unfold cutL; rw [hl1]
  rw [hls, hcl]
  have K1 := (Keep.refl (fun _ => False) w).alloc (.cells #[.int .i64 s.kind, .int .u32 s.ep, .int .u32 s.gr, .slice a len cap] 30)
  obtain ⟨w3, hmk, B3, K3⟩ := make_pages (npg len) (by omega) (w.alloc (.cells #[.int .i64 s.kind, .int .u32 s.ep, .int .u32 s.gr, .slice a len cap] 30))
  rw [show (w.alloc (.cells #[.int .i64 s.kind, .int .u32 s.ep, .int .u32 s.gr, .slice a len cap] 30)).heap.size = w.heap.size + 1 by simp] at hmk B3
  have S3 : Sv w3 w.heap.size s.kind s.ep s.gr a len cap := Blk.keep hsb K3 (fun e => e)
  have k0 := (hsb 0 (by omega)).1
  have k3 := (hsb 3 (by omega)).1
  simp only [show ¬ (3 : Nat) = 0 by omega, show ¬ (3 : Nat) = 1 by omega, show ¬ (3 : Nat) = 2 by omega, ↓reduceIte] at k0 k3
  have KK := K1.trans K3
  have d6 : ¬ (65536 : Int) < (len : Int) := by omega
  clear hsb K1 hls hcl hk
  generalize hN : npg len = N at *
  go_enter Try.func9, Try.ntmps9
  go_wp2_with (first | (go_at_call 18; refine (hkn _).mono ?_; rintro e w2 ⟨rfl, rfl⟩) | (go_at_call 10; refine (hpg _).mono ?_; rintro e w2 ⟨rfl, rfl⟩))
  clear hmk hpg hkn k0 k3
  have hg : Hid (w.heap.size ≤ w.heap.size ∧ w.heap.size + 1 ≠ w.heap.size) := ⟨Nat.le_refl _, by omega⟩
  have B3' : Pb w3 (w.heap.size + 1) N (fun k => if k < 0 then pgS s k else pg0) := B3
  clear B3
  generalize hbs : w.heap.size = bs at *
  generalize hgg : bs + 1 = g at *
  go_loopw [21] (fun v wx => ∃ i : Nat, i ≤ N ∧ v = .int .i64 (i : Int) ∧ Pb wx g N (fun k => if k < i then pgS s k else pg0) ∧ Sv wx bs s.kind s.ep s.gr a len cap ∧ Keep (fun _ => False) w wx) (fun v _ => N - (intOf v).toNat)
  case atStart => exact ⟨0, by omega, rfl, B3', S3, KK⟩
  case round =>
    clear B3' S3 KK K3
    obtain ⟨i, hi, rfl, B, S, KK⟩ := hrel
    by_cases hlt : i < N
    · have c0 := (S 0 (by omega)).1
      have c1 := (S 1 (by omega)).1
      have c2 := (S 2 (by omega)).1
      have c3 := (S 3 (by omega)).1
      simp only [show ¬ (1 : Nat) = 0 by omega, show ¬ (2 : Nat) = 0 by omega, show ¬ (2 : Nat) = 1 by omega, show ¬ (3 : Nat) = 0 by omega, show ¬ (3 : Nat) = 1 by omega, show ¬ (3 : Nat) = 2 by omega, ↓reduceIte] at c0 c1 c2 c3
      have di : (i : Int) < (N : Int) := by omega
      have f1 : IntKind.u32.wrap (len : Int) = (len : Int) := by rw [IntKind.wrap_u32]; omega
      have f2 : IntKind.u32.wrap (i : Int) = (i : Int) := by rw [IntKind.wrap_u32]; omega
      have f3 : IntKind.u32.wrap (N : Int) = (N : Int) := by rw [IntKind.wrap_u32]; omega
      obtain ⟨w4, hst, B4, K4⟩ : ∃ w4, (Instr.storeAt 33 (.pointer (some ⟨g, i * 39, none⟩)) (.agg (pgA (pgK s i 0)))).run Try.prog wr = .ok () w4 ∧ Pb w4 g N (fun k => if k = i then pgK s i 0 else if k < i then pgS s k else pg0) ∧ Keep (fun b => b = g) wr w4 :=
        ⟨_, B.store hlt (pgK s i 0), B.setPage hlt (pgK s i 0), (Keep.refl (fun b => b = g) wr).setCells (Or.inl rfl) _ _⟩
      rw [pgK_zero, hl1, hN] at hst
      have S4 : Sv w4 bs s.kind s.ep s.gr a len cap := Blk.keep S K4 (by omega)
      have K5 : Keep (fun _ => False) w w4 := KK.next K4 (fun x hx e => by omega)
      have cS : ∀ w', Keep (fun b => b = g) w4 w' → w'.cell? ⟨bs, 3, none⟩ = some (.slice a len cap) := fun w' k => ((Blk.keep S4 k (by omega)) 3 (by omega)).1
      go_upto_region 10 with (guard_target =~ wpList _ _ _ (Oper.mk _ (Op.store 33 _ _) _ _ _ _ :: _) _ _; refine wpList_store_run rfl 33 (.tmp 42) (.tmp 41) rfl (by rfl) (by rfl) hst ?_)
      clear hst B S KK c0 c1 c2 c3 f1 f2 f3
      obtain ⟨m, hm⟩ : ∃ m : Nat, m = i * 32 := ⟨_, rfl⟩
      have f5 : IntKind.i64.wrap ((i : Int) * 32) = (m : Int) := by rw [IntKind.wrap_i64]; omega
      have hcap := hr.2.1
      have hcap2 := hr.2.2.1
      have hml : m ≤ len := by unfold npg at hN; split at hN <;> omega
      have dm : (m : Int) ≤ (len : Int) := by omega
      have dm2 : (len : Int) ≤ (cap : Int) := by omega
      have dw := wrapI (x := (i : Int) + 1) (by omega) (by omega)
      have hnext : ∀ (w5 : World) (k : Nat), (k = 32 ∨ len ≤ 32 * i + k) → Pb w5 g N (fun j => if j = i then pgK s i k else (fun k => if k = i then pgK s i 0 else if k < i then pgS s k else pg0) j) → Pb w5 g N (fun j => if j < i + 1 then pgS s j else pg0) := by
        intro w5 k hk h5
        refine Blk.congr h5 (fun c hc => ?_)
        have e : pgK s i k = pgS s i := pgK_end (by rw [hl1]; exact hk)
        show pcl (if c / 39 = i then pgK s i k else if c / 39 = i then pgK s i 0 else if c / 39 < i then pgS s (c / 39) else pg0) (c % 39) = pcl (if c / 39 < i + 1 then pgS s (c / 39) else pg0) (c % 39)
        rw [e]
        by_cases h1 : c / 39 = i
        · rw [if_pos h1, if_pos (by omega), h1]
        · rw [if_neg h1, if_neg h1]
          by_cases h2 : c / 39 < i
          · rw [if_pos h2, if_pos (by omega)]
          · rw [if_neg h2, if_neg (by omega)]
      by_cases hz : len = 0
      · obtain rfl : m = 0 := by omega
        subst hz
        have B5 := hnext w4.drew 0 (Or.inr (by omega)) (by
          refine Blk.congr (Blk.drew B4) (fun c hc => ?_)
          show pcl (if c / 39 = i then pgK s i 0 else if c / 39 < i then pgS s (c / 39) else pg0) (c % 39) = pcl (if c / 39 = i then pgK s i 0 else if c / 39 = i then pgK s i 0 else if c / 39 < i then pgS s (c / 39) else pg0) (c % 39)
          by_cases h1 : c / 39 = i
          · rw [if_pos h1, if_pos h1]
          · rw [if_neg h1, if_neg h1])
        have S5 : Sv w4.drew bs s.kind s.ep s.gr a 0 cap := S4
        have K6 : Keep (fun _ => False) w w4.drew := K5.drew
        have hlt' : Hid (i < N) := hlt
        clear hnext B4 S4 hlt hm f5 dm dm2 hml d6 hlen
        have f5 : IntKind.i64.wrap ((i : Int) * 32) = 0 := by rw [IntKind.wrap_i64]; unfold npg at hN; rw [if_pos rfl] at hN; have : i < N := hlt'; omega
        have hcz : (0 : Int) ≤ (cap : Int) := by omega
        cases a with
        | none =>
          refine wp_region_noPanic ?_
          refine wp_region_held_drew (S := fun w' => Keep (fun b => b = g) w4 w') (by kernel_rfl) ((Keep.refl (fun b => b = g) w4).drew) (fun hH0 => ?_)
          refine' wpAnyH_take (i := 0) (oi := { dst := some 43, op := Op.move (Operand.tmp 4), type := 23, pos := "leaf.go:36", after := #[], guard := none }) (v := _) rfl (by kernel_rfl) (by kernel_rfl) (by kernel_rfl) (fun _ _ _ h => h) (Or.inl ⟨by rfl, ?hya0⟩) hH0 ?ra0
          case hya0 => (intro w' hSw; clear hSw; go_simp; try with_reducible rfl)
          simp only [Act.put, List.setIfInBounds_toArray, List.set_cons_zero, List.set_cons_succ]
          refine' wpAnyH_take (i := 1) (oi := { dst := some 44, op := Op.move (Operand.tmp 5), type := 3, pos := "leaf.go:36", after := #[], guard := none }) (v := _) rfl (by kernel_rfl) (by kernel_rfl) (by kernel_rfl) (fun _ _ _ h => h) (Or.inl ⟨by rfl, ?hya1⟩) hH0 ?ra1
          case hya1 => (intro w' hSw; clear hSw; go_simp; try with_reducible rfl)
          simp only [Act.put, List.setIfInBounds_toArray, List.set_cons_zero, List.set_cons_succ]
          refine' wpAnyH_take (i := 2) (oi := { dst := some 45, op := Op.indexAddr 23 (Operand.tmp 43) (Operand.tmp 44), type := 0, pos := "leaf.go:36", after := #[{ on := 0, ground := Ground.data }, { on := 1, ground := Ground.data }], guard := none }) (v := _) rfl (by kernel_rfl) (by kernel_rfl) (by kernel_rfl) (fun _ _ _ h => h) (Or.inl ⟨by rfl, ?hya2⟩) hH0 ?ra2
          case hya2 => (intro w' hSw; clear hSw; go_simp; try with_reducible rfl)
          simp only [Act.put, List.setIfInBounds_toArray, List.set_cons_zero, List.set_cons_succ]
          refine' wpAnyH_take (i := 3) (oi := { dst := some 46, op := Op.fieldAddr 33 (Operand.tmp 45) 7, type := 0, pos := "leaf.go:36", after := #[{ on := 2, ground := Ground.data }], guard := none }) (v := _) rfl (by kernel_rfl) (by kernel_rfl) (by kernel_rfl) (fun _ _ _ h => h) (Or.inl ⟨by rfl, ?hya3⟩) hH0 ?ra3
          case hya3 => (intro w' hSw; clear hSw; go_simp; try with_reducible rfl)
          simp only [Act.put, List.setIfInBounds_toArray, List.set_cons_zero, List.set_cons_succ]
          refine' wpAnyH_take (i := 4) (oi := { dst := some 47, op := Op.slice 31 (Operand.tmp 46) none none none, type := 28, pos := "leaf.go:36", after := #[{ on := 3, ground := Ground.data }], guard := none }) (v := _) rfl (by kernel_rfl) (by kernel_rfl) (by kernel_rfl) (fun _ _ _ h => h) (Or.inl ⟨by rfl, ?hya4⟩) hH0 ?ra4
          case hya4 => (intro w' hSw; clear hSw; go_simp; try with_reducible rfl)
          simp only [Act.put, List.setIfInBounds_toArray, List.set_cons_zero, List.set_cons_succ]
          refine' wpAnyH_take (i := 5) (oi := { dst := some 48, op := Op.fieldAddr 30 (Operand.tmp 1) 3, type := 0, pos := "leaf.go:36", after := #[], guard := none }) (v := _) rfl (by kernel_rfl) (by kernel_rfl) (by kernel_rfl) (fun _ _ _ h => h) (Or.inl ⟨by rfl, ?hya5⟩) hH0 ?ra5
          case hya5 => (intro w' hSw; clear hSw; go_simp; try with_reducible rfl)
          simp only [Act.put, List.setIfInBounds_toArray, List.set_cons_zero, List.set_cons_succ]
          refine' wpAnyH_take (i := 6) (oi := { dst := some 49, op := Op.load 28 (Operand.tmp 48), type := 28, pos := "leaf.go:36", after := #[{ on := 5, ground := Ground.data }], guard := none }) (v := _) rfl (by kernel_rfl) (by kernel_rfl) (by kernel_rfl) (fun _ _ _ h => h) (Or.inl ⟨by rfl, ?hya6⟩) hH0 ?ra6
          case hya6 => (intro w' hSw; have c3 := cS w' hSw; clear hSw; go_simp; try with_reducible rfl)
          simp only [Act.put, List.setIfInBounds_toArray, List.set_cons_zero, List.set_cons_succ]
          refine' wpAnyH_take (i := 7) (oi := { dst := some 50, op := Op.move (Operand.tmp 5), type := 3, pos := "leaf.go:36", after := #[], guard := none }) (v := _) rfl (by kernel_rfl) (by kernel_rfl) (by kernel_rfl) (fun _ _ _ h => h) (Or.inl ⟨by rfl, ?hya7⟩) hH0 ?ra7
          case hya7 => (intro w' hSw; clear hSw; go_simp; try with_reducible rfl)
          simp only [Act.put, List.setIfInBounds_toArray, List.set_cons_zero, List.set_cons_succ]
          refine' wpAnyH_take (i := 8) (oi := { dst := some 51, op := Op.binOp BinOp.mul 3 (Operand.tmp 50) (Operand.const (Value.int IntKind.i64 32)) 3, type := 3, pos := "leaf.go:36", after := #[{ on := 7, ground := Ground.data }], guard := none }) (v := _) rfl (by kernel_rfl) (by kernel_rfl) (by kernel_rfl) (fun _ _ _ h => h) (Or.inl ⟨by rfl, ?hya8⟩) hH0 ?ra8
          case hya8 => (intro w' hSw; clear hSw; go_simp; try with_reducible rfl)
          simp only [Act.put, List.setIfInBounds_toArray, List.set_cons_zero, List.set_cons_succ]
          refine' wpAnyH_take (i := 9) (oi := { dst := some 52, op := Op.slice 28 (Operand.tmp 49) (some (Operand.tmp 51)) none none, type := 28, pos := "leaf.go:36", after := #[{ on := 6, ground := Ground.data }, { on := 8, ground := Ground.data }], guard := none }) (v := _) rfl (by kernel_rfl) (by kernel_rfl) (by kernel_rfl) (fun _ _ _ h => h) (Or.inl ⟨by rfl, ?hya9⟩) hH0 ?ra9
          case hya9 => (intro w' hSw; clear hSw; go_simp; try with_reducible rfl)
          simp only [Act.put, List.setIfInBounds_toArray, List.set_cons_zero, List.set_cons_succ]
          refine wpAnyH_ready (rs := [10]) (by kernel_rfl) (by simp) ?_
          refine AllReadyH.cons (o := { dst := some 53, op := Op.call { callee := Callee.builtin Builtin.copy, args := #[Operand.tmp 47, Operand.tmp 52], argTypes := #[28, 28] }, type := 3, pos := "leaf.go:36", after := #[{ on := 4, ground := Ground.data }, { on := 9, ground := Ground.data }], guard := none }) rfl (fun K hK => ?_) AllReadyH.nil
          refine step_copy_run (by rfl) (.tmp 47) (.tmp 52) 28 rfl (by rfl) (by rfl) (run_copy_none w4.drew 28 28 3 5 _ _ _ _ _ _ Try.underlying28 size5' rfl) ?_
          refine hK.out _ _ ((Keep.refl (fun b => b = g) w4).drew) (fun hH1 => ?_)
          clear hK K hH0
          simp only [Act.put, List.setIfInBounds_toArray, List.set_cons_zero, List.set_cons_succ]
          refine wpAnyH_done (by kernel_rfl) ?_ _
          refine NoPanic.normal ?_
          clear hH1 cS
          go_wp2_with fail
          go_roundw
          case rel => exact ⟨i + 1, hlt', by go_num, B5, S5, K6⟩
          case measure => have : i < N := hlt'; simp [intOf]; omega
        | some a0 =>
          refine wp_region_noPanic ?_
          refine wp_region_held_drew (S := fun w' => Keep (fun b => b = g) w4 w') (by kernel_rfl) ((Keep.refl (fun b => b = g) w4).drew) (fun hH0 => ?_)
          refine' wpAnyH_take (i := 0) (oi := { dst := some 43, op := Op.move (Operand.tmp 4), type := 23, pos := "leaf.go:36", after := #[], guard := none }) (v := _) rfl (by kernel_rfl) (by kernel_rfl) (by kernel_rfl) (fun _ _ _ h => h) (Or.inl ⟨by rfl, ?hyb0⟩) hH0 ?rb0
          case hyb0 => (intro w' hSw; clear hSw; go_simp; try with_reducible rfl)
          simp only [Act.put, List.setIfInBounds_toArray, List.set_cons_zero, List.set_cons_succ]
          refine' wpAnyH_take (i := 1) (oi := { dst := some 44, op := Op.move (Operand.tmp 5), type := 3, pos := "leaf.go:36", after := #[], guard := none }) (v := _) rfl (by kernel_rfl) (by kernel_rfl) (by kernel_rfl) (fun _ _ _ h => h) (Or.inl ⟨by rfl, ?hyb1⟩) hH0 ?rb1
          case hyb1 => (intro w' hSw; clear hSw; go_simp; try with_reducible rfl)
          simp only [Act.put, List.setIfInBounds_toArray, List.set_cons_zero, List.set_cons_succ]
          refine' wpAnyH_take (i := 2) (oi := { dst := some 45, op := Op.indexAddr 23 (Operand.tmp 43) (Operand.tmp 44), type := 0, pos := "leaf.go:36", after := #[{ on := 0, ground := Ground.data }, { on := 1, ground := Ground.data }], guard := none }) (v := _) rfl (by kernel_rfl) (by kernel_rfl) (by kernel_rfl) (fun _ _ _ h => h) (Or.inl ⟨by rfl, ?hyb2⟩) hH0 ?rb2
          case hyb2 => (intro w' hSw; clear hSw; go_simp; try with_reducible rfl)
          simp only [Act.put, List.setIfInBounds_toArray, List.set_cons_zero, List.set_cons_succ]
          refine' wpAnyH_take (i := 3) (oi := { dst := some 46, op := Op.fieldAddr 33 (Operand.tmp 45) 7, type := 0, pos := "leaf.go:36", after := #[{ on := 2, ground := Ground.data }], guard := none }) (v := _) rfl (by kernel_rfl) (by kernel_rfl) (by kernel_rfl) (fun _ _ _ h => h) (Or.inl ⟨by rfl, ?hyb3⟩) hH0 ?rb3
          case hyb3 => (intro w' hSw; clear hSw; go_simp; try with_reducible rfl)
          simp only [Act.put, List.setIfInBounds_toArray, List.set_cons_zero, List.set_cons_succ]
          refine' wpAnyH_take (i := 4) (oi := { dst := some 47, op := Op.slice 31 (Operand.tmp 46) none none none, type := 28, pos := "leaf.go:36", after := #[{ on := 3, ground := Ground.data }], guard := none }) (v := _) rfl (by kernel_rfl) (by kernel_rfl) (by kernel_rfl) (fun _ _ _ h => h) (Or.inl ⟨by rfl, ?hyb4⟩) hH0 ?rb4
          case hyb4 => (intro w' hSw; clear hSw; go_simp; try with_reducible rfl)
          simp only [Act.put, List.setIfInBounds_toArray, List.set_cons_zero, List.set_cons_succ]
          refine' wpAnyH_take (i := 5) (oi := { dst := some 48, op := Op.fieldAddr 30 (Operand.tmp 1) 3, type := 0, pos := "leaf.go:36", after := #[], guard := none }) (v := _) rfl (by kernel_rfl) (by kernel_rfl) (by kernel_rfl) (fun _ _ _ h => h) (Or.inl ⟨by rfl, ?hyb5⟩) hH0 ?rb5
          case hyb5 => (intro w' hSw; clear hSw; go_simp; try with_reducible rfl)
          simp only [Act.put, List.setIfInBounds_toArray, List.set_cons_zero, List.set_cons_succ]
          refine' wpAnyH_take (i := 6) (oi := { dst := some 49, op := Op.load 28 (Operand.tmp 48), type := 28, pos := "leaf.go:36", after := #[{ on := 5, ground := Ground.data }], guard := none }) (v := _) rfl (by kernel_rfl) (by kernel_rfl) (by kernel_rfl) (fun _ _ _ h => h) (Or.inl ⟨by rfl, ?hyb6⟩) hH0 ?rb6
          case hyb6 => (intro w' hSw; have c3 := cS w' hSw; clear hSw; go_simp; try with_reducible rfl)
          simp only [Act.put, List.setIfInBounds_toArray, List.set_cons_zero, List.set_cons_succ]
          refine' wpAnyH_take (i := 7) (oi := { dst := some 50, op := Op.move (Operand.tmp 5), type := 3, pos := "leaf.go:36", after := #[], guard := none }) (v := _) rfl (by kernel_rfl) (by kernel_rfl) (by kernel_rfl) (fun _ _ _ h => h) (Or.inl ⟨by rfl, ?hyb7⟩) hH0 ?rb7
          case hyb7 => (intro w' hSw; clear hSw; go_simp; try with_reducible rfl)
          simp only [Act.put, List.setIfInBounds_toArray, List.set_cons_zero, List.set_cons_succ]
          refine' wpAnyH_take (i := 8) (oi := { dst := some 51, op := Op.binOp BinOp.mul 3 (Operand.tmp 50) (Operand.const (Value.int IntKind.i64 32)) 3, type := 3, pos := "leaf.go:36", after := #[{ on := 7, ground := Ground.data }], guard := none }) (v := _) rfl (by kernel_rfl) (by kernel_rfl) (by kernel_rfl) (fun _ _ _ h => h) (Or.inl ⟨by rfl, ?hyb8⟩) hH0 ?rb8
          case hyb8 => (intro w' hSw; clear hSw; go_simp; try with_reducible rfl)
          simp only [Act.put, List.setIfInBounds_toArray, List.set_cons_zero, List.set_cons_succ]
          refine' wpAnyH_take (i := 9) (oi := { dst := some 52, op := Op.slice 28 (Operand.tmp 49) (some (Operand.tmp 51)) none none, type := 28, pos := "leaf.go:36", after := #[{ on := 6, ground := Ground.data }, { on := 8, ground := Ground.data }], guard := none }) (v := _) rfl (by kernel_rfl) (by kernel_rfl) (by kernel_rfl) (fun _ _ _ h => h) (Or.inl ⟨by rfl, ?hyb9⟩) hH0 ?rb9
          case hyb9 => (intro w' hSw; clear hSw; go_simp; try with_reducible rfl)
          simp only [Act.put, List.setIfInBounds_toArray, List.set_cons_zero, List.set_cons_succ]
          refine wpAnyH_ready (rs := [10]) (by kernel_rfl) (by simp) ?_
          refine AllReadyH.cons (o := { dst := some 53, op := Op.call { callee := Callee.builtin Builtin.copy, args := #[Operand.tmp 47, Operand.tmp 52], argTypes := #[28, 28] }, type := 3, pos := "leaf.go:36", after := #[{ on := 4, ground := Ground.data }, { on := 9, ground := Ground.data }], guard := none }) rfl (fun K hK => ?_) AllReadyH.nil
          refine step_copy_run (by rfl) (.tmp 47) (.tmp 52) 28 rfl (by rfl) (by rfl) (run_copy_none w4.drew 28 28 3 5 _ _ _ _ _ _ Try.underlying28 size5' rfl) ?_
          refine hK.out _ _ ((Keep.refl (fun b => b = g) w4).drew) (fun hH1 => ?_)
          clear hK K hH0
          simp only [Act.put, List.setIfInBounds_toArray, List.set_cons_zero, List.set_cons_succ]
          refine wpAnyH_done (by kernel_rfl) ?_ _
          refine NoPanic.normal ?_
          clear hH1 cS
          go_wp2_with fail
          go_roundw
          case rel => exact ⟨i + 1, hlt', by go_num, B5, S5, K6⟩
          case measure => have : i < N := hlt'; simp [intOf]; omega
      · obtain ⟨b0, o0, rfl, hcell⟩ := (hr.keep K5 (fun _ _ _ e => e)).2.2.2.2.resolve_left hz
        obtain ⟨q, hq⟩ : ∃ q : Nat, q = Nat.min (len - m) 32 := ⟨_, rfl⟩
        have hq32 : q ≤ 32 := by rw [hq]; exact Nat.min_le_right _ _
        have hqm : q ≤ len - m := by rw [hq]; exact Nat.min_le_left _ _
        have hqe : q = 32 ∨ len ≤ 32 * i + q := by have hq2 : q = min (len - m) 32 := hq; omega
        have B4d : Pb w4.drew g N (fun k => if k = i then pgK s i 0 else if k < i then pgS s k else pg0) := B4
        have hcm : ¬ cap = m := by unfold npg at hN; split at hN <;> omega
        have hrun := run_copy_b (w := w4.drew) B4d (i * 39 + 7) q (by omega) (a := ⟨b0, o0 + m, none⟩) (dd := fun k => s.bytes.getD (32 * i + k) 0) (fun k hk => by
          rw [Addr.add_lit, show o0 + m + k = o0 + (32 * i + k) by omega]
          exact hcell (32 * i + k) (by omega)) 32 32 (len - m) (cap - m) hq.symm
        have B5 := hnext _ q hqe (Pb.copy B4d hlt (by show (if i = i then _ else _) = _; rw [if_pos rfl]) q hq32)
        have K7 : Keep (fun b => b = g) w4 (w4.drew.setCells g (i * 39 + 7) ((List.range q).map (fun k => .int .u8 (s.bytes.getD (32 * i + k) 0)))) := ((Keep.refl (fun b => b = g) w4).drew).setCells (Or.inl rfl) _ _
        have S5 := Blk.keep S4 K7 (by omega)
        have K6 := K5.next K7 (fun x hx e => by omega)
        have hlt' : Hid (i < N) := hlt
        generalize w4.drew.setCells g (i * 39 + 7) ((List.range q).map (fun k => .int .u8 (s.bytes.getD (32 * i + k) 0))) = w5 at hrun B5 K7 S5 K6
        clear hnext B4 B4d S4 hlt hcell hqe hqm hq32 hq hm hN hz
        refine wp_region_noPanic ?_
        refine wp_region_held_drew (S := fun w' => Keep (fun b => b = g) w4 w') (by kernel_rfl) ((Keep.refl (fun b => b = g) w4).drew) (fun hH0 => ?_)
        refine' wpAnyH_take (i := 0) (oi := { dst := some 43, op := Op.move (Operand.tmp 4), type := 23, pos := "leaf.go:36", after := #[], guard := none }) (v := _) rfl (by kernel_rfl) (by kernel_rfl) (by kernel_rfl) (fun _ _ _ h => h) (Or.inl ⟨by rfl, ?hyc0⟩) hH0 ?rc0
        case hyc0 => (intro w' hSw; clear hSw; go_simp; try with_reducible rfl)
        simp only [Act.put, List.setIfInBounds_toArray, List.set_cons_zero, List.set_cons_succ]
        refine' wpAnyH_take (i := 1) (oi := { dst := some 44, op := Op.move (Operand.tmp 5), type := 3, pos := "leaf.go:36", after := #[], guard := none }) (v := _) rfl (by kernel_rfl) (by kernel_rfl) (by kernel_rfl) (fun _ _ _ h => h) (Or.inl ⟨by rfl, ?hyc1⟩) hH0 ?rc1
        case hyc1 => (intro w' hSw; clear hSw; go_simp; try with_reducible rfl)
        simp only [Act.put, List.setIfInBounds_toArray, List.set_cons_zero, List.set_cons_succ]
        refine' wpAnyH_take (i := 2) (oi := { dst := some 45, op := Op.indexAddr 23 (Operand.tmp 43) (Operand.tmp 44), type := 0, pos := "leaf.go:36", after := #[{ on := 0, ground := Ground.data }, { on := 1, ground := Ground.data }], guard := none }) (v := _) rfl (by kernel_rfl) (by kernel_rfl) (by kernel_rfl) (fun _ _ _ h => h) (Or.inl ⟨by rfl, ?hyc2⟩) hH0 ?rc2
        case hyc2 => (intro w' hSw; clear hSw; go_simp; try with_reducible rfl)
        simp only [Act.put, List.setIfInBounds_toArray, List.set_cons_zero, List.set_cons_succ]
        refine' wpAnyH_take (i := 3) (oi := { dst := some 46, op := Op.fieldAddr 33 (Operand.tmp 45) 7, type := 0, pos := "leaf.go:36", after := #[{ on := 2, ground := Ground.data }], guard := none }) (v := _) rfl (by kernel_rfl) (by kernel_rfl) (by kernel_rfl) (fun _ _ _ h => h) (Or.inl ⟨by rfl, ?hyc3⟩) hH0 ?rc3
        case hyc3 => (intro w' hSw; clear hSw; go_simp; try with_reducible rfl)
        simp only [Act.put, List.setIfInBounds_toArray, List.set_cons_zero, List.set_cons_succ]
        refine' wpAnyH_take (i := 4) (oi := { dst := some 47, op := Op.slice 31 (Operand.tmp 46) none none none, type := 28, pos := "leaf.go:36", after := #[{ on := 3, ground := Ground.data }], guard := none }) (v := _) rfl (by kernel_rfl) (by kernel_rfl) (by kernel_rfl) (fun _ _ _ h => h) (Or.inl ⟨by rfl, ?hyc4⟩) hH0 ?rc4
        case hyc4 => (intro w' hSw; clear hSw; go_simp; try with_reducible rfl)
        simp only [Act.put, List.setIfInBounds_toArray, List.set_cons_zero, List.set_cons_succ]
        refine' wpAnyH_take (i := 5) (oi := { dst := some 48, op := Op.fieldAddr 30 (Operand.tmp 1) 3, type := 0, pos := "leaf.go:36", after := #[], guard := none }) (v := _) rfl (by kernel_rfl) (by kernel_rfl) (by kernel_rfl) (fun _ _ _ h => h) (Or.inl ⟨by rfl, ?hyc5⟩) hH0 ?rc5
        case hyc5 => (intro w' hSw; clear hSw; go_simp; try with_reducible rfl)
        simp only [Act.put, List.setIfInBounds_toArray, List.set_cons_zero, List.set_cons_succ]
        refine' wpAnyH_take (i := 6) (oi := { dst := some 49, op := Op.load 28 (Operand.tmp 48), type := 28, pos := "leaf.go:36", after := #[{ on := 5, ground := Ground.data }], guard := none }) (v := _) rfl (by kernel_rfl) (by kernel_rfl) (by kernel_rfl) (fun _ _ _ h => h) (Or.inl ⟨by rfl, ?hyc6⟩) hH0 ?rc6
        case hyc6 => (intro w' hSw; have c3 := cS w' hSw; clear hSw; go_simp; try with_reducible rfl)
        simp only [Act.put, List.setIfInBounds_toArray, List.set_cons_zero, List.set_cons_succ]
        refine' wpAnyH_take (i := 7) (oi := { dst := some 50, op := Op.move (Operand.tmp 5), type := 3, pos := "leaf.go:36", after := #[], guard := none }) (v := _) rfl (by kernel_rfl) (by kernel_rfl) (by kernel_rfl) (fun _ _ _ h => h) (Or.inl ⟨by rfl, ?hyc7⟩) hH0 ?rc7
        case hyc7 => (intro w' hSw; clear hSw; go_simp; try with_reducible rfl)
        simp only [Act.put, List.setIfInBounds_toArray, List.set_cons_zero, List.set_cons_succ]
        refine' wpAnyH_take (i := 8) (oi := { dst := some 51, op := Op.binOp BinOp.mul 3 (Operand.tmp 50) (Operand.const (Value.int IntKind.i64 32)) 3, type := 3, pos := "leaf.go:36", after := #[{ on := 7, ground := Ground.data }], guard := none }) (v := _) rfl (by kernel_rfl) (by kernel_rfl) (by kernel_rfl) (fun _ _ _ h => h) (Or.inl ⟨by rfl, ?hyc8⟩) hH0 ?rc8
        case hyc8 => (intro w' hSw; clear hSw; go_simp; try with_reducible rfl)
        simp only [Act.put, List.setIfInBounds_toArray, List.set_cons_zero, List.set_cons_succ]
        refine' wpAnyH_take (i := 9) (oi := { dst := some 52, op := Op.slice 28 (Operand.tmp 49) (some (Operand.tmp 51)) none none, type := 28, pos := "leaf.go:36", after := #[{ on := 6, ground := Ground.data }, { on := 8, ground := Ground.data }], guard := none }) (v := _) rfl (by kernel_rfl) (by kernel_rfl) (by kernel_rfl) (fun _ _ _ h => h) (Or.inl ⟨by rfl, ?hyc9⟩) hH0 ?rc9
        case hyc9 => (intro w' hSw; clear hSw; go_simp; try with_reducible rfl)
        simp only [Act.put, List.setIfInBounds_toArray, List.set_cons_zero, List.set_cons_succ]
        refine wpAnyH_ready (rs := [10]) (by kernel_rfl) (by simp) ?_
        refine AllReadyH.cons (o := { dst := some 53, op := Op.call { callee := Callee.builtin Builtin.copy, args := #[Operand.tmp 47, Operand.tmp 52], argTypes := #[28, 28] }, type := 3, pos := "leaf.go:36", after := #[{ on := 4, ground := Ground.data }, { on := 9, ground := Ground.data }], guard := none }) rfl (fun K hK => ?_) AllReadyH.nil
        refine step_copy_run (by rfl) (.tmp 47) (.tmp 52) 28 rfl (by rfl) (by rfl) hrun ?_
        refine hK.out _ _ (K7) (fun hH1 => ?_)
        clear hK K hH0
        simp only [Act.put, List.setIfInBounds_toArray, List.set_cons_zero, List.set_cons_succ]
        refine wpAnyH_done (by kernel_rfl) ?_ _
        refine NoPanic.normal ?_
        clear hH1 cS hrun
        go_wp2_with fail
        go_roundw
        case rel => exact ⟨i + 1, hlt', by go_num, B5, S5, K6⟩
        case measure => have : i < N := hlt'; simp [intOf]; omega
    · obtain rfl : i = N := by omega
      have hR := B.rg (by omega)
      have he : (List.range i).map (fun k => if k < i then pgS s k else pg0) = (List.range i).map (pgS s) := List.map_congr_left (fun k hk => by rw [if_pos (by simpa using hk)])
      rw [he] at hR
      have hR' : Hid (Rg wr (some ⟨g, 0, none⟩) i ((List.range i).map (pgS s))) := hR
      clear hlt B S hR he
      have di : ¬ (i : Int) < (i : Int) := by omega
      go_wp2_with fail
      go_ret2
      exact ⟨_, _, rfl, hR', KK⟩
theorem pages_ok : PagesOk := fun n w => (pages_any n w).mono (by rintro e w' ⟨rfl, rfl⟩; exact ⟨rfl, Keep.refl _ _⟩)
set_option maxRecDepth 100000 in
set_option maxHeartbeats 1000000 in
theorem cut_ok : CutOk := by
  intro w s a len cap hr hep hgr
  have hl1 := hr.1
  unfold cutE
  rw [hl1]
  by_cases hk : s.kind = 2 ∨ s.kind = 3
  · rw [if_pos hk]
    have hkb : knB s.kind = true := decide_eq_true hk
    by_cases hlen : len ≤ 65536
    · rw [if_pos hlen]
      exact (cut_body hr hlen hkb).mono (by rintro e w' ⟨a', c', rfl, h1, h2⟩; exact ⟨by rw [if_pos rfl]; exact ⟨a', c', rfl, h1⟩, h2⟩)
    · rw [if_neg hlen]
      simp only [show ¬ (2 : Int) = 0 by decide, ↓reduceIte]
      have hsb : Sv (w.alloc (.cells #[.int .i64 s.kind, .int .u32 s.ep, .int .u32 s.gr, .slice a len cap] 30)) w.heap.size s.kind s.ep s.gr a len cap := blk_alloc w _ 30 4 _ (by intro k hk; rcases (by omega : k = 0 ∨ k = 1 ∨ k = 2 ∨ k = 3) with rfl | rfl | rfl | rfl <;> rfl)
      have hkn := fun w' => known_any s.kind w'
      rw [hkb] at hkn
      have k0 := (hsb 0 (by omega)).1
      have k3 := (hsb 3 (by omega)).1
      simp only [show ¬ (3 : Nat) = 0 by omega, show ¬ (3 : Nat) = 1 by omega, show ¬ (3 : Nat) = 2 by omega, ↓reduceIte] at k0 k3
      have K1 := (Keep.refl (fun _ => False) w).alloc (.cells #[.int .i64 s.kind, .int .u32 s.ep, .int .u32 s.gr, .slice a len cap] 30)
      have d6 : (65536 : Int) < (len : Int) := by omega
      clear hsb hk hkb hlen hr
      go_enter Try.func9, Try.ntmps9
      go_wp2_with (go_at_call 18; refine (hkn _).mono ?_; rintro e w2 ⟨rfl, rfl⟩)
      go_ret2
      exact ⟨⟨_, _, rfl⟩, K1⟩
  · rw [if_neg hk]
    simp only [show ¬ (1 : Int) = 0 by decide, ↓reduceIte]
    have hkb : knB s.kind = false := decide_eq_false hk
    have hsb : Sv (w.alloc (.cells #[.int .i64 s.kind, .int .u32 s.ep, .int .u32 s.gr, .slice a len cap] 30)) w.heap.size s.kind s.ep s.gr a len cap := blk_alloc w _ 30 4 _ (by intro k hk; rcases (by omega : k = 0 ∨ k = 1 ∨ k = 2 ∨ k = 3) with rfl | rfl | rfl | rfl <;> rfl)
    have hkn := fun w' => known_any s.kind w'
    rw [hkb] at hkn
    have k0 := (hsb 0 (by omega)).1
    simp only [↓reduceIte] at k0
    have K1 := (Keep.refl (fun _ => False) w).alloc (.cells #[.int .i64 s.kind, .int .u32 s.ep, .int .u32 s.gr, .slice a len cap] 30)
    clear hsb hk hkb hr
    go_enter Try.func9, Try.ntmps9
    go_wp2_with (go_at_call 18; refine (hkn _).mono ?_; rintro e w2 ⟨rfl, rfl⟩)
    go_ret2
    exact ⟨⟨_, _, rfl⟩, K1⟩
end Tg
end Go.Proofs.Ytginnojbmpnleaa
