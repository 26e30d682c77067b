/-
  The stream that whole pages say: the program's joined, walked.
-/
import Derived.Test.YtginnojbmpnleaaMi
import Derived.Test.YtginnojbmpnleaaMd
namespace Go.Proofs.Ytginnojbmpnleaa
open Go.ChangeShapes Go.WideShapes Go.ChangeAt Go.RowKit
namespace Tg
theorem size30 : (Try.prog.info? 30).map (·.size) = some 4 := by kernel_rfl
theorem under30 : ∃ d, Try.prog.underlying 30 = some d ∧ d.isRow = true := ⟨_, Try.underlying30, rfl⟩
theorem Sv.new30 (w : World) (k e g : Int) (a : Option Addr) (len cap : Nat) : Sv (w.alloc (.cells #[.int .i64 k, .int .u32 e, .int .u32 g, .slice a len cap] 30)) w.heap.size k e g a len cap := blk_alloc w _ 30 4 _ (by intro k hk; rcases (by omega : k = 0 ∨ k = 1 ∨ k = 2 ∨ k = 3) with rfl | rfl | rfl | rfl <;> rfl)
theorem Sv.loadVar30 {w : World} {b : Nat} {k e g : Int} {a : Option Addr} {len cap : Nat} (h : Sv w b k e g a len cap) : (Go.loadVar 30 ⟨b, 0, none⟩).run Try.prog w = .ok (.agg #[.int .i64 k, .int .u32 e, .int .u32 g, .slice a len cap]) w := by
  obtain ⟨t, h1, h2⟩ := under30
  have := run_loadVar_mid (P := Try.prog) w b 0 30 [.int .i64 k, .int .u32 e, .int .u32 g, .slice a len cap] t h.range h1 h2 (by rw [size30]; simp)
  simpa using this
theorem Sv.over30 {w : World} {b : Nat} {k e g : Int} {a : Option Addr} {len cap : Nat} (h : Sv w b k e g a len cap) (k' e' g' : Int) (a' : Option Addr) (len' cap' : Nat) : ∃ w', (Instr.storeAt 30 (.pointer (some ⟨b, 0, none⟩)) (.agg #[.int .i64 k', .int .u32 e', .int .u32 g', .slice a' len' cap'])).run Try.prog w = .ok () w' ∧ Sv w' b k' e' g' a' len' cap' ∧ Keep (fun x => x = b) w w' := by
  have ht : w.there b 0 (#[.int .i64 k', .int .u32 e', .int .u32 g', .slice a' len' cap'] : Array Value).size := fun j hj => ⟨by rw [(h (0 + j) (by simp at hj; omega)).1]; rfl, (h (0 + j) (by simp at hj; omega)).2⟩
  refine ⟨_, run_storeAt_mid w b 0 30 #[.int .i64 k', .int .u32 e', .int .u32 g', .slice a' len' cap'] ht size30 (by simp [Value.oneCell']), ?_, (Keep.refl (fun x => x = b) w).setCells (b := b) (Or.inl rfl) _ _⟩
  exact Blk.congr (Blk.setCells h 0 4 (fun j => if j = 0 then .int .i64 k' else if j = 1 then .int .u32 e' else if j = 2 then .int .u32 g' else .slice a' len' cap') (by omega)) (fun i hi => by rw [if_pos (by omega), Nat.sub_zero])
theorem make_bytes32 (n : Nat) (hn : n ≤ 139264) (w : World) : (Instr.makeSlice 28 (.int .u32 (n : Int)) (.int .u32 (n : Int))).run Try.prog w = .ok (.slice (some ⟨w.heap.size, 0, none⟩) n n) (w.alloc (.cells (madeCells #[.int .u8 0] n) 5)) :=
  run_make_row' (P := Try.prog) 28 5 (.int .u8 0) 1 Try.underlying28 info5 rfl .u32 .u32 n (by omega) (by omega) w
/-- What joined tells. -/
def Jd (w : World) (s : St) (e : Ending) (w' : World) : Prop := ∃ b, e = .returned (.agg #[.int .i64 s.kind, .int .u32 s.ep, .int .u32 s.gr, .slice (some ⟨b, 0, none⟩) s.bytes.length s.bytes.length]) ∧ w.heap.size ≤ b ∧ b < w'.heap.size ∧ Row w' (some ⟨b, 0, none⟩) s.bytes.length s.bytes.length s.bytes ∧ Keep (fun _ => False) w w'
set_option maxRecDepth 100000 in
set_option maxHeartbeats 2000000 in
theorem joined_any {w : World} {a : Option Addr} {cap : Nat} {G : List Pg} {s : St} (hR : Rg w a cap G) (hG : Grp G) (hW : Whole G s) (hl : G.length ≤ 100000) :
    Calls Try.prog 22 #[.slice a G.length cap] w (Jd w s) := by
  obtain ⟨hkey, hpg, hall⟩ := whole_pages hG hW
  have hlc := hR.1
  have hlc2 := hR.2.1
  have h0 := hG.some
  have hsl := hW.1.len
  have hsb := hW.1.bytes
  obtain ⟨L, hL⟩ : ∃ L, L = s.bytes.length := ⟨_, rfl⟩
  rw [← hL] at hsl hpg hall
  have hgf : G[0]? = some (at0 G 0) := at0_get h0
  obtain ⟨i0, -, -, hlba0, -, -⟩ := hpg _ (at0_mem h0)
  obtain ⟨g, o, rfl, -⟩ := hR.at hgf
  have cell0 : Hid (∀ w', Keep (fun _ => False) w w' → ∀ j, j < 39 → w'.cell? ⟨g, o + j, none⟩ = some (pcl (at0 G 0) j)) := fun w' k j hj => by
    obtain ⟨g', o', e, hc'⟩ := (hR.more k).at hgf
    injection e with e
    injection e with e1 e2
    subst e1 e2
    have := hc' j hj
    rwa [Nat.zero_mul, Nat.add_zero] at this
  obtain ⟨m, hm⟩ : ∃ m, m = G.length := ⟨_, rfl⟩
  have hm' : Hid (m = G.length) := hm
  rw [← hm] at hlc h0 hl ⊢
  have S1 := Sv.new30 w 0 0 0 none 0 0
  have Ka := (Keep.refl (fun _ => False) w).alloc (.cells #[.int .i64 0, .int .u32 0, .int .u32 0, .slice none 0 0] 30)
  have hsz1 : (w.alloc (.cells #[.int .i64 0, .int .u32 0, .int .u32 0, .slice none 0 0] 30)).heap.size = w.heap.size + 1 := by simp
  have hmk := make_bytes32 L (by omega) (w.alloc (.cells #[.int .i64 0, .int .u32 0, .int .u32 0, .slice none 0 0] 30))
  have B3 := blk_made (w.alloc (.cells #[.int .i64 0, .int .u32 0, .int .u32 0, .slice none 0 0] 30)) (.int .u8 0) 5 L
  have Kb := Ka.alloc (.cells (madeCells #[.int .u8 0] L) 5)
  have hsz2 : ((w.alloc (.cells #[.int .i64 0, .int .u32 0, .int .u32 0, .slice none 0 0] 30)).alloc (.cells (madeCells #[.int .u8 0] L) 5)).heap.size = w.heap.size + 2 := by simp
  have S3 : Sv ((w.alloc (.cells #[.int .i64 0, .int .u32 0, .int .u32 0, .slice none 0 0] 30)).alloc (.cells (madeCells #[.int .u8 0] L) 5)) w.heap.size 0 0 0 none 0 0 := Blk.keep S1 ((Keep.refl (fun _ => False) _).alloc _) (fun e => e)
  rw [hsz1] at hmk B3
  have c1 := cell0 _ Ka 1 (by omega)
  rw [show pcl (at0 G 0) 1 = .int .u32 (at0 G 0).lba from rfl, hlba0] at c1
  have dn0 : (0 : Int) < (m : Int) := by omega
  have hL' : Hid (L = s.bytes.length) := hL
  clear hm hsz1 S1 hgf hL
  go_enter Try.func22, Try.ntmps22
  go_wp2_with fail
  generalize hw3 : (w.alloc (.cells #[.int .i64 0, .int .u32 0, .int .u32 0, .slice none 0 0] 30)).alloc (.cells (madeCells #[.int .u8 0] L) 5) = w3 at *
  clear hmk hw3 c1 Ka
  have hb2 : Hid (w.heap.size ≤ w.heap.size) := Nat.le_refl _
  generalize hb2e : w.heap.size = b2 at S3 B3 hsz2 hb2
  generalize hb3e : b2 + 1 = b3 at B3
  clear hlba0
  go_loopw [13] (fun v wx => ∃ (t : Nat) (f : Nat → Int), t ≤ m ∧ v = .int .i64 (t : Int) ∧ Sv wx b2 0 0 0 none 0 0 ∧ Blk wx b3 L (fun k => .int .u8 (f k)) ∧ Hid (∀ k, k < L → (∃ j, j < t ∧ (at0 G j).ix = ((k / 32 : Nat) : Int)) → f k = s.bytes.getD k 0) ∧ Keep (fun _ => False) w wx ∧ Hid (b2 + 2 ≤ wx.heap.size)) (fun v _ => m - (intOf v).toNat)
  case atStart => exact ⟨0, (fun _ => 0), by omega, rfl, S3, B3, (fun k _ h => by obtain ⟨j, h1, -⟩ := h; omega), Kb, (by show _ ≤ _; omega)⟩
  case round =>
    clear S3 B3 Kb hsz2
    obtain ⟨t, f, ht, rfl, S, B, hf, KK, hsz⟩ := hrel
    by_cases hlt : t < m
    · obtain ⟨q, hq⟩ : ∃ q, q = at0 G t := ⟨_, rfl⟩
      have htl : t < G.length := by rw [← show m = G.length from hm']; exact hlt
      have hgq : G[t]? = some q := by rw [hq]; exact at0_get htl
      obtain ⟨g', o', e, hc⟩ := (hR.more KK).at hgq
      injection e with e
      injection e with e1 e2
      subst e1 e2
      have hlq : (Instr.loadAt 33 (.pointer (some ⟨g, o + t * 39, none⟩))).run Try.prog wr = .ok (.agg (pgA q)) wr := pg_load hc
      obtain ⟨i, hi, hqi, -, -, hqp⟩ := hpg q (List.mem_of_getElem? hgq)
      have hnp := npg_max hsl
      have Kx := (Keep.refl (fun _ => False) wr).alloc (.cells (pgA pg0) 33)
      obtain ⟨w4, hst, P4, K4⟩ := (Pv.new wr pg0).over q
      rw [pg0_lit] at hst
      have hszx : (wr.alloc (.cells (pgA pg0) 33)).heap.size = wr.heap.size + 1 := by simp
      have hsz' : b2 + 2 ≤ wr.heap.size := hsz
      have S4 : Sv w4 b2 0 0 0 none 0 0 := Blk.keep (Blk.keep S Kx (fun e => e)) K4 (by omega)
      have B4 : Blk w4 b3 L (fun k => .int .u8 (f k)) := Blk.keep (Blk.keep B Kx (fun e => e)) K4 (by omega)
      have K5 : Keep (fun _ => False) w w4 := (KK.trans Kx).next K4 (fun x hx e => by have := KK.size; omega)
      have hsz4 : b2 + 2 ≤ w4.heap.size := by have := K4.size; omega
      have hbp : Hid (b3 ≠ wr.heap.size ∧ b2 ≠ wr.heap.size) := ⟨by omega, by omega⟩
      have cI : ∀ w', Keep (fun b => b = b3) w4 w' → w'.cell? ⟨wr.heap.size, 5, none⟩ = some (.int .u32 q.ix) := fun w' k => Pv.ix (Blk.keep P4 k (by omega))
      have hpay : ∀ w', Keep (fun b => b = b3) w4 w' → ∀ k, k < 32 → w'.cell? ⟨wr.heap.size, 7 + k, none⟩ = some (.int .u8 (q.pay.getD k 0)) := fun w' k' k hk => Pv.pay (Blk.keep P4 k' (by omega)) hk
      have di : (t : Int) < (m : Int) := by omega
      have dw := wrapI (x := (t : Int) + 1) (by omega) (by omega)
      have hlt' : Hid (t < m) := hlt
      obtain ⟨M, hM⟩ : ∃ M : Nat, M = 32 * i := ⟨_, rfl⟩
      have f5 : IntKind.u32.wrap (q.ix * 32) = (M : Int) := by rw [IntKind.wrap_u32]; omega
      have hML : M ≤ L := by unfold npg at hi; split at hi <;> omega
      have dM : (M : Int) ≤ (L : Int) := by omega
      have hqk : Hid (∀ j, j < t + 1 → j = t ∨ j < t) := fun j hj => by omega
      have hqt : Hid (q = at0 G t) := hq
      clear hq htl hgq hc S B K4 Kx hszx P4 hlt hsz hsz'
      go_upto_region 5 with (first | (guard_target =~ wpList _ _ _ (Oper.mk _ (Op.load 33 _) _ _ _ _ :: _) _ _; refine wpList_load_run (by rfl) 33 (.tmp 15) rfl (by rfl) hlq ?_) | (guard_target =~ wpList _ _ _ (Oper.mk _ (Op.store 33 _ _) _ _ _ _ :: _) _ _; refine wpList_store_run rfl 33 (.tmp 5) (.tmp 16) rfl (by rfl) (by rfl) hst ?_))
      clear hlq hst
      generalize wr.heap.size = bp at *
      by_cases hz : L = 0
      · obtain rfl : M = 0 := by omega
        subst hz
        have hf2 : Hid (∀ k, k < 0 → (∃ j, j < t + 1 ∧ (at0 G j).ix = ((k / 32 : Nat) : Int)) → f k = s.bytes.getD k 0) := fun k hk => by omega
        have K6 : Keep (fun _ => False) w w4.drew := K5.drew
        have B6 : Blk w4.drew b3 0 (fun k => .int .u8 (f k)) := B4
        have S6 : Sv w4.drew b2 0 0 0 none 0 0 := S4
        have hsz6 : Hid (b2 + 2 ≤ w4.drew.heap.size) := hsz4
        have f6 : IntKind.u32.wrap (q.ix * 32) = 0 := f5
        clear hf hM hML dM hsl hpay hpg hall B4 S4 hsz4 f5 hqp hqi hi hnp
        refine wp_region_noPanic ?_
        refine wp_region_held_drew (S := fun w' => Keep (fun b => b = b3) w4 w') (by kernel_rfl) ((Keep.refl (fun b => b = b3) w4).drew) (fun hH0 => ?_)
        refine' wpAnyH_take (i := 0) (oi := { dst := some 17, op := Op.move (Operand.tmp 3), type := 28, pos := "leaf.go:133", after := #[], guard := none }) (v := _) rfl (by kernel_rfl) (by kernel_rfl) (by kernel_rfl) (fun _ _ _ h => h) (Or.inl ⟨by rfl, ?hya0⟩) hH0 ?ra0
        case hya0 => (intro w' hSw; clear hSw; go_simp; try with_reducible rfl)
        simp only [Act.put, List.setIfInBounds_toArray, List.set_cons_zero, List.set_cons_succ]
        refine' wpAnyH_take (i := 1) (oi := { dst := some 18, op := Op.fieldAddr 33 (Operand.tmp 5) 5, type := 0, pos := "leaf.go:133", after := #[], guard := none }) (v := _) rfl (by kernel_rfl) (by kernel_rfl) (by kernel_rfl) (fun _ _ _ h => h) (Or.inl ⟨by rfl, ?hya1⟩) hH0 ?ra1
        case hya1 => (intro w' hSw; clear hSw; go_simp; try with_reducible rfl)
        simp only [Act.put, List.setIfInBounds_toArray, List.set_cons_zero, List.set_cons_succ]
        refine' wpAnyH_take (i := 2) (oi := { dst := some 19, op := Op.load 27 (Operand.tmp 18), type := 27, pos := "leaf.go:133", after := #[{ on := 1, ground := Ground.data }], guard := none }) (v := _) rfl (by kernel_rfl) (by kernel_rfl) (by kernel_rfl) (fun _ _ _ h => h) (Or.inl ⟨by rfl, ?hya2⟩) hH0 ?ra2
        case hya2 => (intro w' hSw; have c5 := cI w' hSw; clear hSw; go_simp; try with_reducible rfl)
        simp only [Act.put, List.setIfInBounds_toArray, List.set_cons_zero, List.set_cons_succ]
        refine' wpAnyH_take (i := 3) (oi := { dst := some 20, op := Op.binOp BinOp.mul 27 (Operand.tmp 19) (Operand.const (Value.int IntKind.u32 32)) 27, type := 27, pos := "leaf.go:133", after := #[{ on := 2, ground := Ground.data }], guard := none }) (v := _) rfl (by kernel_rfl) (by kernel_rfl) (by kernel_rfl) (fun _ _ _ h => h) (Or.inl ⟨by rfl, ?hya3⟩) hH0 ?ra3
        case hya3 => (intro w' hSw; clear hSw; go_simp; try with_reducible rfl)
        simp only [Act.put, List.setIfInBounds_toArray, List.set_cons_zero, List.set_cons_succ]
        refine' wpAnyH_take (i := 4) (oi := { dst := some 21, op := Op.slice 28 (Operand.tmp 17) (some (Operand.tmp 20)) none none, type := 28, pos := "leaf.go:133", after := #[{ on := 0, ground := Ground.data }, { on := 3, ground := Ground.data }], guard := none }) (v := _) rfl (by kernel_rfl) (by kernel_rfl) (by kernel_rfl) (fun _ _ _ h => h) (Or.inl ⟨by rfl, ?hya4⟩) hH0 ?ra4
        case hya4 => (intro w' hSw; clear hSw; go_simp; try with_reducible rfl)
        simp only [Act.put, List.setIfInBounds_toArray, List.set_cons_zero, List.set_cons_succ]
        refine' wpAnyH_take (i := 5) (oi := { dst := some 22, op := Op.fieldAddr 33 (Operand.tmp 5) 7, type := 0, pos := "leaf.go:133", after := #[], guard := none }) (v := _) rfl (by kernel_rfl) (by kernel_rfl) (by kernel_rfl) (fun _ _ _ h => h) (Or.inl ⟨by rfl, ?hya5⟩) hH0 ?ra5
        case hya5 => (intro w' hSw; clear hSw; go_simp; try with_reducible rfl)
        simp only [Act.put, List.setIfInBounds_toArray, List.set_cons_zero, List.set_cons_succ]
        refine' wpAnyH_take (i := 6) (oi := { dst := some 23, op := Op.slice 31 (Operand.tmp 22) none none none, type := 28, pos := "leaf.go:133", after := #[{ on := 5, ground := Ground.data }], guard := none }) (v := _) rfl (by kernel_rfl) (by kernel_rfl) (by kernel_rfl) (fun _ _ _ h => h) (Or.inl ⟨by rfl, ?hya6⟩) hH0 ?ra6
        case hya6 => (intro w' hSw; clear hSw; go_simp; try with_reducible rfl)
        simp only [Act.put, List.setIfInBounds_toArray, List.set_cons_zero, List.set_cons_succ]
        refine wpAnyH_ready (rs := [7]) (by kernel_rfl) (by simp) ?_
        refine AllReadyH.cons (o := { dst := some 24, op := Op.call { callee := Callee.builtin Builtin.copy, args := #[Operand.tmp 21, Operand.tmp 23], argTypes := #[28, 28] }, type := 3, pos := "leaf.go:133", after := #[{ on := 4, ground := Ground.data }, { on := 6, ground := Ground.data }], guard := none }) rfl (fun K hK => ?_) AllReadyH.nil
        refine step_copy_run (by rfl) (.tmp 21) (.tmp 23) 28 rfl (by rfl) (by rfl) (run_copy_none w4.drew 28 28 3 5 _ _ _ _ _ _ Try.underlying28 size5' rfl) ?_
        refine hK.out _ _ ((Keep.refl (fun b => b = b3) w4).drew) (fun hH1 => ?_)
        clear hK K hH0
        simp only [Act.put, List.setIfInBounds_toArray, List.set_cons_zero, List.set_cons_succ]
        refine wpAnyH_done (by kernel_rfl) ?_ _
        refine NoPanic.normal ?_
        clear hH1 cI
        go_wp2_with fail
        go_roundw
        case rel => exact ⟨t + 1, f, hlt', by go_num, S6, B6, hf2, K6, hsz6⟩
        case measure => have : t < m := hlt'; simp [intOf]; omega
      · have hM2 : M < L := by unfold npg at hi; split at hi <;> omega
        obtain ⟨n, hn⟩ : ∃ n : Nat, n = Nat.min 32 (L - M) := ⟨_, rfl⟩
        have hn2 : n = min 32 (L - M) := hn
        have hLM : ¬ L = M := by omega
        have B4d : Blk w4.drew b3 L (fun k => .int .u8 (f k)) := B4
        have hrun := run_copy_b (w := w4.drew) B4d M n (by omega) (a := ⟨bp, 7, none⟩) (dd := fun k => q.pay.getD k 0) (fun k hk => by
          rw [Addr.add_lit]
          exact hpay w4.drew (Keep.refl (fun b => b = b3) w4).drew k (by omega)) (L - M) (L - M) 32 32 hn.symm
        have B6 : Blk (w4.drew.setCells b3 M ((List.range n).map (fun k => .int .u8 (q.pay.getD k 0)))) b3 L (fun k => .int .u8 (if M ≤ k ∧ k < M + n then q.pay.getD (k - M) 0 else f k)) :=
          Blk.congr (Blk.setCells B4d M n (fun k => .int .u8 (q.pay.getD k 0)) (by omega)) (fun k hk => by
            by_cases c : M ≤ k ∧ k < M + n
            · rw [if_pos c, if_pos c]
            · rw [if_neg c, if_neg c])
        have K7 : Keep (fun b => b = b3) w4 (w4.drew.setCells b3 M ((List.range n).map (fun k => .int .u8 (q.pay.getD k 0)))) := ((Keep.refl (fun b => b = b3) w4).drew).setCells (Or.inl rfl) _ _
        have hf2 : Hid (∀ k, k < L → (∃ j, j < t + 1 ∧ (at0 G j).ix = ((k / 32 : Nat) : Int)) → (if M ≤ k ∧ k < M + n then q.pay.getD (k - M) 0 else f k) = s.bytes.getD k 0) := fun k hk ⟨j, hj, ej⟩ => by
          by_cases c : M ≤ k ∧ k < M + n
          · rw [if_pos c, hqp, payOf_get _ _ (by omega)]
            congr 1
            omega
          · rw [if_neg c]
            refine (show ∀ k, k < L → (∃ j, j < t ∧ (at0 G j).ix = ((k / 32 : Nat) : Int)) → f k = s.bytes.getD k 0 from hf) k hk ⟨j, ?_, ej⟩
            rcases (show ∀ j, j < t + 1 → j = t ∨ j < t from hqk) j hj with rfl | h
            · rw [← show q = at0 G j from hqt] at ej
              omega
            · exact h
        have S6 : Sv _ b2 0 0 0 none 0 0 := Blk.keep S4 K7 (by omega)
        have K6 := K5.next K7 (fun x hx e => by omega)
        have hsz6 : Hid (b2 + 2 ≤ (w4.drew.setCells b3 M ((List.range n).map (fun k => .int .u8 (q.pay.getD k 0)))).heap.size) := Nat.le_trans hsz4 K7.size
        generalize w4.drew.setCells b3 M ((List.range n).map (fun k => .int .u8 (q.pay.getD k 0))) = w5 at hrun B6 K7 S6 K6 hsz6
        clear hf hM hML hpay hpg hall B4 B4d S4 hsz4 hn2 hn hqp hqi hi hz hM2
        refine wp_region_noPanic ?_
        refine wp_region_held_drew (S := fun w' => Keep (fun b => b = b3) w4 w') (by kernel_rfl) ((Keep.refl (fun b => b = b3) w4).drew) (fun hH0 => ?_)
        refine' wpAnyH_take (i := 0) (oi := { dst := some 17, op := Op.move (Operand.tmp 3), type := 28, pos := "leaf.go:133", after := #[], guard := none }) (v := _) rfl (by kernel_rfl) (by kernel_rfl) (by kernel_rfl) (fun _ _ _ h => h) (Or.inl ⟨by rfl, ?hyb0⟩) hH0 ?rb0
        case hyb0 => (intro w' hSw; clear hSw; go_simp; try with_reducible rfl)
        simp only [Act.put, List.setIfInBounds_toArray, List.set_cons_zero, List.set_cons_succ]
        refine' wpAnyH_take (i := 1) (oi := { dst := some 18, op := Op.fieldAddr 33 (Operand.tmp 5) 5, type := 0, pos := "leaf.go:133", after := #[], guard := none }) (v := _) rfl (by kernel_rfl) (by kernel_rfl) (by kernel_rfl) (fun _ _ _ h => h) (Or.inl ⟨by rfl, ?hyb1⟩) hH0 ?rb1
        case hyb1 => (intro w' hSw; clear hSw; go_simp; try with_reducible rfl)
        simp only [Act.put, List.setIfInBounds_toArray, List.set_cons_zero, List.set_cons_succ]
        refine' wpAnyH_take (i := 2) (oi := { dst := some 19, op := Op.load 27 (Operand.tmp 18), type := 27, pos := "leaf.go:133", after := #[{ on := 1, ground := Ground.data }], guard := none }) (v := _) rfl (by kernel_rfl) (by kernel_rfl) (by kernel_rfl) (fun _ _ _ h => h) (Or.inl ⟨by rfl, ?hyb2⟩) hH0 ?rb2
        case hyb2 => (intro w' hSw; have c5 := cI w' hSw; clear hSw; go_simp; try with_reducible rfl)
        simp only [Act.put, List.setIfInBounds_toArray, List.set_cons_zero, List.set_cons_succ]
        refine' wpAnyH_take (i := 3) (oi := { dst := some 20, op := Op.binOp BinOp.mul 27 (Operand.tmp 19) (Operand.const (Value.int IntKind.u32 32)) 27, type := 27, pos := "leaf.go:133", after := #[{ on := 2, ground := Ground.data }], guard := none }) (v := _) rfl (by kernel_rfl) (by kernel_rfl) (by kernel_rfl) (fun _ _ _ h => h) (Or.inl ⟨by rfl, ?hyb3⟩) hH0 ?rb3
        case hyb3 => (intro w' hSw; clear hSw; go_simp; try with_reducible rfl)
        simp only [Act.put, List.setIfInBounds_toArray, List.set_cons_zero, List.set_cons_succ]
        refine' wpAnyH_take (i := 4) (oi := { dst := some 21, op := Op.slice 28 (Operand.tmp 17) (some (Operand.tmp 20)) none none, type := 28, pos := "leaf.go:133", after := #[{ on := 0, ground := Ground.data }, { on := 3, ground := Ground.data }], guard := none }) (v := _) rfl (by kernel_rfl) (by kernel_rfl) (by kernel_rfl) (fun _ _ _ h => h) (Or.inl ⟨by rfl, ?hyb4⟩) hH0 ?rb4
        case hyb4 => (intro w' hSw; clear hSw; go_simp; try with_reducible rfl)
        simp only [Act.put, List.setIfInBounds_toArray, List.set_cons_zero, List.set_cons_succ]
        refine' wpAnyH_take (i := 5) (oi := { dst := some 22, op := Op.fieldAddr 33 (Operand.tmp 5) 7, type := 0, pos := "leaf.go:133", after := #[], guard := none }) (v := _) rfl (by kernel_rfl) (by kernel_rfl) (by kernel_rfl) (fun _ _ _ h => h) (Or.inl ⟨by rfl, ?hyb5⟩) hH0 ?rb5
        case hyb5 => (intro w' hSw; clear hSw; go_simp; try with_reducible rfl)
        simp only [Act.put, List.setIfInBounds_toArray, List.set_cons_zero, List.set_cons_succ]
        refine' wpAnyH_take (i := 6) (oi := { dst := some 23, op := Op.slice 31 (Operand.tmp 22) none none none, type := 28, pos := "leaf.go:133", after := #[{ on := 5, ground := Ground.data }], guard := none }) (v := _) rfl (by kernel_rfl) (by kernel_rfl) (by kernel_rfl) (fun _ _ _ h => h) (Or.inl ⟨by rfl, ?hyb6⟩) hH0 ?rb6
        case hyb6 => (intro w' hSw; clear hSw; go_simp; try with_reducible rfl)
        simp only [Act.put, List.setIfInBounds_toArray, List.set_cons_zero, List.set_cons_succ]
        refine wpAnyH_ready (rs := [7]) (by kernel_rfl) (by simp) ?_
        refine AllReadyH.cons (o := { dst := some 24, op := Op.call { callee := Callee.builtin Builtin.copy, args := #[Operand.tmp 21, Operand.tmp 23], argTypes := #[28, 28] }, type := 3, pos := "leaf.go:133", after := #[{ on := 4, ground := Ground.data }, { on := 6, ground := Ground.data }], guard := none }) rfl (fun K hK => ?_) AllReadyH.nil
        refine step_copy_run (by rfl) (.tmp 21) (.tmp 23) 28 rfl (by rfl) (by rfl) hrun ?_
        refine hK.out _ _ (K7) (fun hH1 => ?_)
        clear hK K hH0
        simp only [Act.put, List.setIfInBounds_toArray, List.set_cons_zero, List.set_cons_succ]
        refine wpAnyH_done (by kernel_rfl) ?_ _
        refine NoPanic.normal ?_
        clear hH1 cI hrun
        go_wp2_with fail
        go_roundw
        case rel => exact ⟨t + 1, _, hlt', by go_num, S6, B6, hf2, K6, hsz6⟩
        case measure => have : t < m := hlt'; simp [intOf]; omega
    · obtain rfl : t = m := by omega
      have hsz' : b2 + 2 ≤ wr.heap.size := hsz
      have cF0 : ∀ w', Keep (fun b => b = b2) wr w' → w'.cell? ⟨g, o, none⟩ = some (.int .i64 s.kind) := fun w' k => by
        have := cell0 w' (KK.next k (fun x hx e => by omega)) 0 (by omega)
        rw [Nat.add_zero] at this
        rw [this, hkey.1]
        rfl
      have cF3 : ∀ w', Keep (fun b => b = b2) wr w' → w'.cell? ⟨g, o + 3, none⟩ = some (.int .u32 s.ep) := fun w' k => by
        rw [cell0 w' (KK.next k (fun x hx e => by omega)) 3 (by omega), hkey.2.1]
        rfl
      have cF4 : ∀ w', Keep (fun b => b = b2) wr w' → w'.cell? ⟨g, o + 4, none⟩ = some (.int .u32 s.gr) := fun w' k => by
        rw [cell0 w' (KK.next k (fun x hx e => by omega)) 4 (by omega), hkey.2.2]
        rfl
      have S' : Sv wr.drew b2 0 0 0 none 0 0 := S
      obtain ⟨w6, hst, S6, K6⟩ := S'.over30 s.kind s.ep s.gr (some ⟨b3, 0, none⟩) L L
      have K7 : Keep (fun b => b = b2) wr w6 := ((Keep.refl (fun b => b = b2) wr).drew).trans K6
      have hlv := S6.loadVar30
      have B6 : Blk w6 b3 L (fun k => .int .u8 (f k)) := Blk.keep B K7 (by omega)
      have hpost : Hid (∀ e, e = .returned (.agg #[.int .i64 s.kind, .int .u32 s.ep, .int .u32 s.gr, .slice (some ⟨b3, 0, none⟩) L L]) → Jd w s e w6) := fun e he => by
        have hLL : L = s.bytes.length := hL'
        refine ⟨b3, by rw [he, hLL], by omega, by have := K7.size; omega, ?_, KK.next K7 (fun x hx e => by omega)⟩
        rw [← hLL]
        refine ⟨hLL.symm, Nat.le_refl _, by omega, hsb, Or.inr ⟨b3, 0, rfl, fun k hk => ?_⟩⟩
        rw [Nat.zero_add, (B6 k hk).1]
        show some (Value.int .u8 (f k)) = _
        have hcov : ∃ j, j < t ∧ (at0 G j).ix = ((k / 32 : Nat) : Int) := by
          obtain ⟨p, hp, e⟩ := hall (k / 32) (by have := npg_le L; omega)
          obtain ⟨j, hj, rfl⟩ := mem_at0 hp
          exact ⟨j, by rw [show t = G.length from hm']; exact hj, e⟩
        rw [(show ∀ k, k < L → (∃ j, j < t ∧ (at0 G j).ix = ((k / 32 : Nat) : Int)) → f k = s.bytes.getD k 0 from hf) k hk hcov]
      have di : ¬ (t : Int) < (t : Int) := by omega
      clear hf hpg hall B6 S6 S S' B hlt cell0 hkey
      go_upto_region 7 with fail
      refine wp_region_noPanic ?_
      refine wp_region_held_drew (S := fun w' => Keep (fun b => b = b2) wr w') (by kernel_rfl) ((Keep.refl (fun b => b = b2) wr).drew) (fun hH0 => ?_)
      refine' wpAnyH_take (i := 0) (oi := { dst := some 26, op := Op.move (Operand.tmp 0), type := 23, pos := "leaf.go:135", after := #[], guard := none }) (v := _) rfl (by kernel_rfl) (by kernel_rfl) (by kernel_rfl) (fun _ _ _ h => h) (Or.inl ⟨by rfl, ?hyc0⟩) hH0 ?rc0
      case hyc0 => (intro w' hSw; have c0 := cF0 w' hSw; have c3 := cF3 w' hSw; have c4 := cF4 w' hSw; clear hSw; go_simp; try with_reducible rfl)
      simp only [Act.put, List.setIfInBounds_toArray, List.set_cons_zero, List.set_cons_succ]
      refine' wpAnyH_take (i := 1) (oi := { dst := some 27, op := Op.indexAddr 23 (Operand.tmp 26) (Operand.const (Value.int IntKind.i64 0)), type := 0, pos := "leaf.go:135", after := #[{ on := 0, ground := Ground.data }], guard := none }) (v := _) rfl (by kernel_rfl) (by kernel_rfl) (by kernel_rfl) (fun _ _ _ h => h) (Or.inl ⟨by rfl, ?hyc1⟩) hH0 ?rc1
      case hyc1 => (intro w' hSw; have c0 := cF0 w' hSw; have c3 := cF3 w' hSw; have c4 := cF4 w' hSw; clear hSw; go_simp; try with_reducible rfl)
      simp only [Act.put, List.setIfInBounds_toArray, List.set_cons_zero, List.set_cons_succ]
      refine' wpAnyH_take (i := 2) (oi := { dst := some 28, op := Op.fieldAddr 33 (Operand.tmp 27) 0, type := 0, pos := "leaf.go:135", after := #[{ on := 1, ground := Ground.data }], guard := none }) (v := _) rfl (by kernel_rfl) (by kernel_rfl) (by kernel_rfl) (fun _ _ _ h => h) (Or.inl ⟨by rfl, ?hyc2⟩) hH0 ?rc2
      case hyc2 => (intro w' hSw; have c0 := cF0 w' hSw; have c3 := cF3 w' hSw; have c4 := cF4 w' hSw; clear hSw; go_simp; try with_reducible rfl)
      simp only [Act.put, List.setIfInBounds_toArray, List.set_cons_zero, List.set_cons_succ]
      refine' wpAnyH_take (i := 3) (oi := { dst := some 29, op := Op.load 3 (Operand.tmp 28), type := 3, pos := "leaf.go:135", after := #[{ on := 2, ground := Ground.data }], guard := none }) (v := _) rfl (by kernel_rfl) (by kernel_rfl) (by kernel_rfl) (fun _ _ _ h => h) (Or.inl ⟨by rfl, ?hyc3⟩) hH0 ?rc3
      case hyc3 => (intro w' hSw; have c0 := cF0 w' hSw; have c3 := cF3 w' hSw; have c4 := cF4 w' hSw; clear hSw; go_simp; try with_reducible rfl)
      simp only [Act.put, List.setIfInBounds_toArray, List.set_cons_zero, List.set_cons_succ]
      refine' wpAnyH_take (i := 4) (oi := { dst := some 30, op := Op.move (Operand.tmp 0), type := 23, pos := "leaf.go:135", after := #[], guard := none }) (v := _) rfl (by kernel_rfl) (by kernel_rfl) (by kernel_rfl) (fun _ _ _ h => h) (Or.inl ⟨by rfl, ?hyc4⟩) hH0 ?rc4
      case hyc4 => (intro w' hSw; have c0 := cF0 w' hSw; have c3 := cF3 w' hSw; have c4 := cF4 w' hSw; clear hSw; go_simp; try with_reducible rfl)
      simp only [Act.put, List.setIfInBounds_toArray, List.set_cons_zero, List.set_cons_succ]
      refine' wpAnyH_take (i := 5) (oi := { dst := some 31, op := Op.indexAddr 23 (Operand.tmp 30) (Operand.const (Value.int IntKind.i64 0)), type := 0, pos := "leaf.go:135", after := #[{ on := 4, ground := Ground.data }], guard := none }) (v := _) rfl (by kernel_rfl) (by kernel_rfl) (by kernel_rfl) (fun _ _ _ h => h) (Or.inl ⟨by rfl, ?hyc5⟩) hH0 ?rc5
      case hyc5 => (intro w' hSw; have c0 := cF0 w' hSw; have c3 := cF3 w' hSw; have c4 := cF4 w' hSw; clear hSw; go_simp; try with_reducible rfl)
      simp only [Act.put, List.setIfInBounds_toArray, List.set_cons_zero, List.set_cons_succ]
      refine' wpAnyH_take (i := 6) (oi := { dst := some 32, op := Op.fieldAddr 33 (Operand.tmp 31) 3, type := 0, pos := "leaf.go:135", after := #[{ on := 5, ground := Ground.data }], guard := none }) (v := _) rfl (by kernel_rfl) (by kernel_rfl) (by kernel_rfl) (fun _ _ _ h => h) (Or.inl ⟨by rfl, ?hyc6⟩) hH0 ?rc6
      case hyc6 => (intro w' hSw; have c0 := cF0 w' hSw; have c3 := cF3 w' hSw; have c4 := cF4 w' hSw; clear hSw; go_simp; try with_reducible rfl)
      simp only [Act.put, List.setIfInBounds_toArray, List.set_cons_zero, List.set_cons_succ]
      refine' wpAnyH_take (i := 7) (oi := { dst := some 33, op := Op.load 27 (Operand.tmp 32), type := 27, pos := "leaf.go:135", after := #[{ on := 6, ground := Ground.data }], guard := none }) (v := _) rfl (by kernel_rfl) (by kernel_rfl) (by kernel_rfl) (fun _ _ _ h => h) (Or.inl ⟨by rfl, ?hyc7⟩) hH0 ?rc7
      case hyc7 => (intro w' hSw; have c0 := cF0 w' hSw; have c3 := cF3 w' hSw; have c4 := cF4 w' hSw; clear hSw; go_simp; try with_reducible rfl)
      simp only [Act.put, List.setIfInBounds_toArray, List.set_cons_zero, List.set_cons_succ]
      refine' wpAnyH_take (i := 8) (oi := { dst := some 34, op := Op.move (Operand.tmp 0), type := 23, pos := "leaf.go:135", after := #[], guard := none }) (v := _) rfl (by kernel_rfl) (by kernel_rfl) (by kernel_rfl) (fun _ _ _ h => h) (Or.inl ⟨by rfl, ?hyc8⟩) hH0 ?rc8
      case hyc8 => (intro w' hSw; have c0 := cF0 w' hSw; have c3 := cF3 w' hSw; have c4 := cF4 w' hSw; clear hSw; go_simp; try with_reducible rfl)
      simp only [Act.put, List.setIfInBounds_toArray, List.set_cons_zero, List.set_cons_succ]
      refine' wpAnyH_take (i := 9) (oi := { dst := some 35, op := Op.indexAddr 23 (Operand.tmp 34) (Operand.const (Value.int IntKind.i64 0)), type := 0, pos := "leaf.go:135", after := #[{ on := 8, ground := Ground.data }], guard := none }) (v := _) rfl (by kernel_rfl) (by kernel_rfl) (by kernel_rfl) (fun _ _ _ h => h) (Or.inl ⟨by rfl, ?hyc9⟩) hH0 ?rc9
      case hyc9 => (intro w' hSw; have c0 := cF0 w' hSw; have c3 := cF3 w' hSw; have c4 := cF4 w' hSw; clear hSw; go_simp; try with_reducible rfl)
      simp only [Act.put, List.setIfInBounds_toArray, List.set_cons_zero, List.set_cons_succ]
      refine' wpAnyH_take (i := 10) (oi := { dst := some 36, op := Op.fieldAddr 33 (Operand.tmp 35) 4, type := 0, pos := "leaf.go:135", after := #[{ on := 9, ground := Ground.data }], guard := none }) (v := _) rfl (by kernel_rfl) (by kernel_rfl) (by kernel_rfl) (fun _ _ _ h => h) (Or.inl ⟨by rfl, ?hyc10⟩) hH0 ?rc10
      case hyc10 => (intro w' hSw; have c0 := cF0 w' hSw; have c3 := cF3 w' hSw; have c4 := cF4 w' hSw; clear hSw; go_simp; try with_reducible rfl)
      simp only [Act.put, List.setIfInBounds_toArray, List.set_cons_zero, List.set_cons_succ]
      refine' wpAnyH_take (i := 11) (oi := { dst := some 37, op := Op.load 27 (Operand.tmp 36), type := 27, pos := "leaf.go:135", after := #[{ on := 10, ground := Ground.data }], guard := none }) (v := _) rfl (by kernel_rfl) (by kernel_rfl) (by kernel_rfl) (fun _ _ _ h => h) (Or.inl ⟨by rfl, ?hyc11⟩) hH0 ?rc11
      case hyc11 => (intro w' hSw; have c0 := cF0 w' hSw; have c3 := cF3 w' hSw; have c4 := cF4 w' hSw; clear hSw; go_simp; try with_reducible rfl)
      simp only [Act.put, List.setIfInBounds_toArray, List.set_cons_zero, List.set_cons_succ]
      refine' wpAnyH_take (i := 12) (oi := { dst := some 38, op := Op.move (Operand.tmp 3), type := 28, pos := "leaf.go:135", after := #[], guard := none }) (v := _) rfl (by kernel_rfl) (by kernel_rfl) (by kernel_rfl) (fun _ _ _ h => h) (Or.inl ⟨by rfl, ?hyc12⟩) hH0 ?rc12
      case hyc12 => (intro w' hSw; have c0 := cF0 w' hSw; have c3 := cF3 w' hSw; have c4 := cF4 w' hSw; clear hSw; go_simp; try with_reducible rfl)
      simp only [Act.put, List.setIfInBounds_toArray, List.set_cons_zero, List.set_cons_succ]
      refine' wpAnyH_take (i := 13) (oi := { dst := some 39, op := Op.build 30 #[(0, Operand.tmp 29), (1, Operand.tmp 33), (2, Operand.tmp 37), (3, Operand.tmp 38)], type := 30, pos := "leaf.go:135", after := #[{ on := 3, ground := Ground.data }, { on := 7, ground := Ground.data }, { on := 11, ground := Ground.data }, { on := 12, ground := Ground.data }], guard := none }) (v := _) rfl (by kernel_rfl) (by kernel_rfl) (by kernel_rfl) (fun _ _ _ h => h) (Or.inl ⟨by rfl, ?hyc13⟩) hH0 ?rc13
      case hyc13 => (intro w' hSw; have c0 := cF0 w' hSw; have c3 := cF3 w' hSw; have c4 := cF4 w' hSw; clear hSw; go_simp; try with_reducible rfl)
      simp only [Act.put, List.setIfInBounds_toArray, List.set_cons_zero, List.set_cons_succ]
      refine wpAnyH_ready (rs := [14]) (by kernel_rfl) (by simp) ?_
      refine AllReadyH.cons (o := { dst := none, op := Op.store 30 (Operand.tmp 2) (Operand.tmp 39), type := 0, pos := "leaf.go:135", after := #[{ on := 13, ground := Ground.data }, { on := 0, ground := Ground.phase }, { on := 1, ground := Ground.phase }, { on := 2, ground := Ground.phase }, { on := 3, ground := Ground.phase }, { on := 4, ground := Ground.phase }, { on := 5, ground := Ground.phase }, { on := 6, ground := Ground.phase }, { on := 7, ground := Ground.phase }, { on := 8, ground := Ground.phase }, { on := 9, ground := Ground.phase }, { on := 10, ground := Ground.phase }, { on := 11, ground := Ground.phase }, { on := 12, ground := Ground.phase }, { on := 13, ground := Ground.phase }], guard := none }) rfl (fun K hK => ?_) AllReadyH.nil
      refine step_store_run (by rfl) 30 (.tmp 2) (.tmp 39) rfl (by rfl) (by rfl) hst ?_
      refine hK.out _ _ (K7) (fun hH1 => ?_)
      clear hK K hH0
      simp only [Act.put]
      refine wpAnyH_done (by kernel_rfl) ?_ _
      refine NoPanic.normal ?_
      go_wp2_with fail
      refine bodyPost_ret (v := .agg #[.int .i64 s.kind, .int .u32 s.ep, .int .u32 s.gr, .slice (some ⟨b3, 0, none⟩) L L]) ?_ rfl (hpost _ rfl)
      rw [results_cell rfl]
      simp [asAddr, Result.andThen, hlv]
end Tg
end Go.Proofs.Ytginnojbmpnleaa
