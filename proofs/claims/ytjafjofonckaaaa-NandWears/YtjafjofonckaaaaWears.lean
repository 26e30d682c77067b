/-
  The statement of wear, walked: for any size and any list of calls it returns true, and whatever was in memory is as it was.
-/
import Derived.Test.YtjafjofonckaaaaSteps
namespace Go.Proofs.Ytjafjofonckaaaa
open Go.ChangeShapes Go.WideShapes Go.ChangeAt Go.RowKit
namespace Nd

theorem stat_field2 (w : World) (a b c : Int) : (Instr.field 55 (.agg #[.int .i64 a, .int .i64 b, .int .i64 c]) 2).run Try.prog w = .ok (.int .i64 c) w := by kernel_rfl
theorem ActAt.keep {w w' : World} {b o : Nat} {op a sh f : Int} (h : ActAt w b o op a sh f) (k : Keep (fun _ => False) w w') : ActAt w' b o op a sh f := by
  have e : w'.heap[b]? = w.heap[b]? := k.block b (World.block_lt_of_cell? w _ h.c0) (fun e => e)
  exact ⟨by rw [World.cell?_of_block (w := w) (a := ⟨b, o, none⟩) e]; exact h.c0, by rw [World.cell?_of_block (w := w) (a := ⟨b, o + 1, none⟩) e]; exact h.c1, by rw [World.cell?_of_block (w := w) (a := ⟨b, o + 2, none⟩) e]; exact h.c2, by rw [World.cell?_of_block (w := w) (a := ⟨b, o + 3, none⟩) e]; exact h.c3, h.wa⟩

theorem Fl.call1_wear {s : Fl} {n : Int} (h : 0 ≤ n ∧ n < s.B) (hb : s.begun n.toNat = true) : (s.call1 n).2.erases = s.erases + 1 ∧ (s.call1 n).2.wear = fun x => if x = n.toNat then s.wear x + 1 else s.wear x := by
  unfold Fl.call1
  rw [if_pos h, (Fl.erase_wear s _).1, (Fl.erase_wear s _).2, hb]
  exact ⟨rfl, rfl⟩
theorem Fl.call1_still {s : Fl} {n : Int} (h : ¬ (0 ≤ n ∧ n < s.B ∧ s.begun n.toNat = true)) : (s.call1 n).2.erases = s.erases ∧ (s.call1 n).2.wear = s.wear := by
  unfold Fl.call1
  split
  · rename_i h1
    have hb : s.begun n.toNat = false := by
      cases e : s.begun n.toNat
      · rfl
      · exact absurd ⟨h1.1, h1.2, e⟩ h
    rw [(Fl.erase_wear s _).1, (Fl.erase_wear s _).2, hb]
    exact ⟨rfl, rfl⟩
  · exact ⟨rfl, rfl⟩
theorem Fl.call0_wear (s : Fl) (n : Int) (m : Nat) (d : Nat → Int) : (s.call0 n m d).2.wear = s.wear := by
  unfold Fl.call0
  split
  · exact (Fl.program_wear s _ _ d).1
  · rfl
theorem wsum_le (f : Nat → Nat) (n : Nat) : ∀ m, n ≤ m → wsum f n ≤ wsum f m
  | 0, h => by obtain rfl : n = 0 := by omega
               exact Nat.le_refl _
  | m + 1, h => by
    by_cases e : n = m + 1
    · subst e; exact Nat.le_refl _
    · have := wsum_le f n m (by omega)
      show wsum f n ≤ wsum f m + f m
      omega

set_option maxRecDepth 100000 in
set_option maxHeartbeats 8000000 in
theorem wears_main (w : World) {B P len cap : Nat} {a : Option Addr} (b1 : 1 ≤ B) (b2 : B ≤ 8) (p1 : 1 ≤ P) (p2 : P ≤ 8) (h40 : len ≤ 40) (hlc : len ≤ cap) (hcm : cap ≤ 9223372036854775807)
    (hA : len = 0 ∨ ∃ b o, a = some ⟨b, o, none⟩ ∧ ∀ i, i < len → ∃ op x sh f, ActAt w b (o + i * 4) op x sh f) :
    Calls Try.prog 6 #[.int .i64 B, .int .i64 P, .slice a len cap] w fun e w' => e = .returned (.bool true) ∧ Keep (fun _ => False) w w' := by
  have g1 : ¬ (B : Int) < 1 := by omega
  have g2 : ¬ (8 : Int) < B := by omega
  have g3 : ¬ (P : Int) < 1 := by omega
  have g4 : ¬ (8 : Int) < P := by omega
  have g5 : ¬ (40 : Int) < len := by omega
  go_enter Try.func6, Try.ntmps6
  go_wp2_with fail
  refine (awake_any w).mono ?_
  rintro e w1 ⟨rfl, k1⟩
  go_wp2_with fail
  refine (new_any (B := B) (P := P) b1 (by omega) p1 (by omega)).mono ?_
  rintro e w2 ⟨p, c, k, rfl, m0, hp, hc, hk, K0⟩
  go_wp2_with fail
  refine (rnew_any (B := B) (P := P) (by omega) (by omega)).mono ?_
  rintro e w3 ⟨l, rfl, r0, hl, K1⟩
  have PR0 : Pair w1 w3 p c k l (Fl.new B P) (Fl.new B P) (-1) := Pair.start m0 b1 p1 hp hc hk K0 r0 b1 p1 hl K1
  have hmk := make_ints B (by omega) w3
  have hq0 := blk_madeV w3 (.int .i64 0) 3 B
  have hKm : Keep (fun _ => False) w3 (w3.alloc (.cells (madeCells #[.int .i64 0] B) 3)) := (Keep.refl _ _).alloc _
  have T0 : Two w1 (w3.alloc (.cells (madeCells #[.int .i64 0] B) 3)) p c k l (Fl.new B P) 0 B P := ⟨⟨-1, PR0.aside hKm, ⟨fun _ => rfl, by omega, by omega⟩⟩, Fl.Ok.new b1 (by omega) p1 (by omega) 0, rfl, rfl⟩
  have hqo : ¬ Own p c k w3.heap.size := fun e => by have := PR0.lt _ (Or.inl e); omega
  have hql : ¬ l.own w3.heap.size := fun e => by have := PR0.lt _ (Or.inr e); omega
  have hq1 : w1.heap.size ≤ w3.heap.size := PR0.keep.size
  go_wp2_with fail
  clear hmk m0 hp hc hk K0 r0 hl K1 PR0
  generalize hw4 : w3.alloc (.cells (madeCells #[.int .i64 0] B) 3) = w4 at *
  clear hw4 hKm
  generalize w3.heap.size = q at *
  have hlen : (len : Int) ≤ 40 := by omega
  go_loopw [11] (fun i wr => ∃ (j : Nat) (s : Fl), j ≤ len ∧ i = .int .i64 j ∧ Two w1 wr p c k l s j B P ∧ s.Worn ∧ Blk wr q B (fun b => .int .i64 (s.wear b))) (fun i _ => len - (intOf i).toNat)
  case atStart => exact ⟨0, Fl.new B P, by omega, rfl, T0, Fl.Worn.new B P, hq0⟩
  case round =>
    obtain ⟨j, s, hj, rfl, T, hworn, hwq⟩ := hrel
    clear T0 hq0
    obtain ⟨y0, hPr, hcx⟩ := T.pair
    by_cases hlt : j < len
    · rcases hA with h0 | ⟨b, o, rfl, hall⟩
      · omega
      obtain ⟨op, x, sh, f, hact⟩ := hall j hlt
      have hact2 := (hact.keep k1).keep hPr.keep
      have c0 := hact2.c0
      have c1 := hact2.c1
      have c2 := hact2.c2
      have c3 := hact2.c3
      have hxb := bounds_i64 hact.wa.2.1
      have hlt' : (j : Int) < len := by omega
      clear hall hact hact2
      obtain ⟨w5, hst, hX, hk5⟩ := new_act wr op x sh f
      have hEo : ¬ Own p c k wr.heap.size := fun e => by have := hPr.lt _ (Or.inl e); omega
      have hEl : ¬ l.own wr.heap.size := fun e => by have := hPr.lt _ (Or.inr e); omega
      have hql2 := hwq.lt (by omega)
      have hEq : ¬ q = wr.heap.size := by omega
      have hP5 := hPr.aside hk5
      have hwq5 := hwq.keep hk5 (fun e => e)
      have x0 : w5.cell? ⟨wr.heap.size, 0, none⟩ = some (.int .i64 op) := (hX 0 (by omega)).1
      have x1 : w5.cell? ⟨wr.heap.size, 1, none⟩ = some (.int .i64 x) := (hX 1 (by omega)).1
      have hE := hX.lt (by omega)
      obtain ⟨E, hEE⟩ : ∃ E, wr.heap.size = E := ⟨_, rfl⟩
      simp only [hEE] at hEo hEl hEq x0 x1 hX hst hE
      by_cases o0 : op = 0
      · subst o0
        go_wp2_with (guard_target =~ wpList _ _ _ (Oper.mk _ (Op.store 38 _ _) _ _ _ _ :: _) _ _; refine wpList_store_run rfl 38 (.tmp 12) (.tmp 61) rfl (by rfl) (by rfl) hst ?_)
        clear hst c0 c1 c2 c3 x0 x1
        refine wp_region_noPanic ?_
        refine wp_region_held_drew (S := fun w' => Blk w' E 4 (four 0 x sh f)) (by kernel_rfl) (hX.keep ((Keep.refl (fun _ => False) _).drew) (fun e => e)) (fun hH0 => ?_)
        refine' wpAnyH_take (i := 0) (oi := { dst := some 66, op := Op.move (Operand.tmp 7), type := 23, pos := "more.go:27", after := #[], guard := none }) (v := _) rfl (by kernel_rfl) (by kernel_rfl) (by kernel_rfl) (fun _ _ _ h => h) (Or.inl ⟨by rfl, ?hya0⟩) hH0 ?ra0
        case hya0 => (intro w' hSw; clear hSw; go_simp; try with_reducible rfl)
        simp only [Act.put, List.setIfInBounds_toArray, List.set_cons_zero, List.set_cons_succ]
        refine' wpAnyH_take (i := 1) (oi := { dst := some 67, op := Op.fieldAddr 38 (Operand.tmp 12) 1, type := 0, pos := "more.go:27", after := #[], guard := none }) (v := _) rfl (by kernel_rfl) (by kernel_rfl) (by kernel_rfl) (fun _ _ _ h => h) (Or.inl ⟨by rfl, ?hya1⟩) hH0 ?ra1
        case hya1 => (intro w' hSw; have x0 : w'.cell? ⟨E, 0, none⟩ = some (.int .i64 0) := (hSw 0 (by omega)).1; have x1 : w'.cell? ⟨E, 1, none⟩ = some (.int .i64 x) := (hSw 1 (by omega)).1; have x2 : w'.cell? ⟨E, 2, none⟩ = some (.int .i64 sh) := (hSw 2 (by omega)).1; have x3 : w'.cell? ⟨E, 3, none⟩ = some (.int .u8 f) := (hSw 3 (by omega)).1; clear hSw; go_simp; try with_reducible rfl)
        simp only [Act.put, List.setIfInBounds_toArray, List.set_cons_zero, List.set_cons_succ]
        refine' wpAnyH_take (i := 2) (oi := { dst := some 68, op := Op.load 3 (Operand.tmp 67), type := 3, pos := "more.go:27", after := #[{ on := 1, ground := Ground.data }], guard := none }) (v := _) rfl (by kernel_rfl) (by kernel_rfl) (by kernel_rfl) (fun _ _ _ h => h) (Or.inl ⟨by rfl, ?hya2⟩) hH0 ?ra2
        case hya2 => (intro w' hSw; have x0 : w'.cell? ⟨E, 0, none⟩ = some (.int .i64 0) := (hSw 0 (by omega)).1; have x1 : w'.cell? ⟨E, 1, none⟩ = some (.int .i64 x) := (hSw 1 (by omega)).1; have x2 : w'.cell? ⟨E, 2, none⟩ = some (.int .i64 sh) := (hSw 2 (by omega)).1; have x3 : w'.cell? ⟨E, 3, none⟩ = some (.int .u8 f) := (hSw 3 (by omega)).1; clear hSw; go_simp; try with_reducible rfl)
        simp only [Act.put, List.setIfInBounds_toArray, List.set_cons_zero, List.set_cons_succ]
        refine' wpAnyH_take (i := 3) (oi := { dst := some 69, op := Op.load 38 (Operand.tmp 12), type := 38, pos := "more.go:27", after := #[], guard := none }) (v := _) rfl (by kernel_rfl) (by kernel_rfl) (by kernel_rfl) (fun _ _ _ h => h) (Or.inl ⟨by rfl, ?hya3⟩) hH0 ?ra3
        case hya3 => (intro w' hSw; have x0 : w'.cell? ⟨E, 0, none⟩ = some (.int .i64 0) := (hSw 0 (by omega)).1; have x1 : w'.cell? ⟨E, 1, none⟩ = some (.int .i64 x) := (hSw 1 (by omega)).1; have x2 : w'.cell? ⟨E, 2, none⟩ = some (.int .i64 sh) := (hSw 2 (by omega)).1; have x3 : w'.cell? ⟨E, 3, none⟩ = some (.int .u8 f) := (hSw 3 (by omega)).1; clear hSw; go_simp; try with_reducible rfl)
        simp only [Act.put, List.setIfInBounds_toArray, List.set_cons_zero, List.set_cons_succ]
        refine wpAnyH_ready (rs := [4]) (by kernel_rfl) (by simp) ?_
        refine AllReadyH.cons (o := { dst := some 70, op := Op.call { callee := Callee.value (Operand.func 17), args := #[Operand.tmp 69], argTypes := #[38] }, type := 28, pos := "more.go:27", after := #[{ on := 3, ground := Ground.data }], guard := none }) rfl (fun K hK => ?_) AllReadyH.nil
        refine step_call_want (vs := #[.agg #[.int .i64 0, .int .i64 x, .int .i64 sh, .int .u8 f]]) (R := DataR w5 sh f) (by rfl) 17 #[Operand.tmp 69] #[38] rfl (by simp [Act.eval]) call17 (data_post ((Keep.refl _ w5).drew) 0 x sh f) ?_
        rintro u w6 ⟨D, rfl, hD, hBD, hk6⟩
        refine hK.out _ _ (hX.keep hk6 (fun e => e)) (fun hH1 => ?_)
        clear hK K hH0
        simp only [Act.put, List.setIfInBounds_toArray, List.set_cons_zero, List.set_cons_succ]
        refine wpAnyH_ready (rs := [5]) (by kernel_rfl) (by simp) ?_
        refine AllReadyH.cons (o := { dst := some 71, op := Op.call { callee := Callee.value (Operand.func 10), args := #[Operand.tmp 66, Operand.tmp 68, Operand.tmp 70], argTypes := #[23, 3, 28] }, type := 24, pos := "more.go:27", after := #[{ on := 0, ground := Ground.data }, { on := 2, ground := Ground.data }, { on := 4, ground := Ground.data }, { on := 4, ground := Ground.chain }], guard := none }) rfl (fun K hK => ?_) AllReadyH.nil
        refine step_call_want (vs := #[.pointer (some ⟨p, 0, none⟩), .int .i64 x, .slice (some ⟨D, 0, none⟩) (howMany sh) (howMany sh)]) (R := ProgR p c k s x sh f w6) (by rfl) 10 #[Operand.tmp 66, Operand.tmp 68, Operand.tmp 70] #[23, 3, 28] rfl (by simp [Act.eval]) call10 (prog_post (hP5.aside hk6).mem T.ok (by omega) x sh f hBD (fun e => by have := hP5.lt D (Or.inl e); omega)) ?_
        rintro u w7 ⟨rfl, hm7, hk7⟩
        refine hK.out _ _ ((hX.keep hk6 (fun e => e)).keep hk7 hEo) (fun hH2 => ?_)
        clear hK K hH1
        simp only [Act.put, List.setIfInBounds_toArray, List.set_cons_zero, List.set_cons_succ]
        refine wpAnyH_done (by kernel_rfl) ?_ _
        refine NoPanic.normal ?_
        have hX7 : Blk w7 E 4 (four 0 x sh f) := (hX.keep hk6 (fun e => e)).keep hk7 hEo
        have hP7 := (hP5.aside hk6).own hm7 hk7
        go_wp2_with fail
        refine wp_region_noPanic ?_
        refine wp_region_held_drew (S := fun w' => Blk w' E 4 (four 0 x sh f)) (by kernel_rfl) (hX7.keep ((Keep.refl (fun _ => False) _).drew) (fun e => e)) (fun hH0 => ?_)
        refine' wpAnyH_take (i := 0) (oi := { dst := some 72, op := Op.move (Operand.tmp 9), type := 35, pos := "more.go:28", after := #[], guard := none }) (v := _) rfl (by kernel_rfl) (by kernel_rfl) (by kernel_rfl) (fun _ _ _ h => h) (Or.inl ⟨by rfl, ?hyb0⟩) hH0 ?rb0
        case hyb0 => (intro w' hSw; clear hSw; go_simp; try with_reducible rfl)
        simp only [Act.put, List.setIfInBounds_toArray, List.set_cons_zero, List.set_cons_succ]
        refine' wpAnyH_take (i := 1) (oi := { dst := some 73, op := Op.fieldAddr 38 (Operand.tmp 12) 1, type := 0, pos := "more.go:28", after := #[], guard := none }) (v := _) rfl (by kernel_rfl) (by kernel_rfl) (by kernel_rfl) (fun _ _ _ h => h) (Or.inl ⟨by rfl, ?hyb1⟩) hH0 ?rb1
        case hyb1 => (intro w' hSw; have x0 : w'.cell? ⟨E, 0, none⟩ = some (.int .i64 0) := (hSw 0 (by omega)).1; have x1 : w'.cell? ⟨E, 1, none⟩ = some (.int .i64 x) := (hSw 1 (by omega)).1; have x2 : w'.cell? ⟨E, 2, none⟩ = some (.int .i64 sh) := (hSw 2 (by omega)).1; have x3 : w'.cell? ⟨E, 3, none⟩ = some (.int .u8 f) := (hSw 3 (by omega)).1; clear hSw; go_simp; try with_reducible rfl)
        simp only [Act.put, List.setIfInBounds_toArray, List.set_cons_zero, List.set_cons_succ]
        refine' wpAnyH_take (i := 2) (oi := { dst := some 74, op := Op.load 3 (Operand.tmp 73), type := 3, pos := "more.go:28", after := #[{ on := 1, ground := Ground.data }], guard := none }) (v := _) rfl (by kernel_rfl) (by kernel_rfl) (by kernel_rfl) (fun _ _ _ h => h) (Or.inl ⟨by rfl, ?hyb2⟩) hH0 ?rb2
        case hyb2 => (intro w' hSw; have x0 : w'.cell? ⟨E, 0, none⟩ = some (.int .i64 0) := (hSw 0 (by omega)).1; have x1 : w'.cell? ⟨E, 1, none⟩ = some (.int .i64 x) := (hSw 1 (by omega)).1; have x2 : w'.cell? ⟨E, 2, none⟩ = some (.int .i64 sh) := (hSw 2 (by omega)).1; have x3 : w'.cell? ⟨E, 3, none⟩ = some (.int .u8 f) := (hSw 3 (by omega)).1; clear hSw; go_simp; try with_reducible rfl)
        simp only [Act.put, List.setIfInBounds_toArray, List.set_cons_zero, List.set_cons_succ]
        refine' wpAnyH_take (i := 3) (oi := { dst := some 75, op := Op.load 38 (Operand.tmp 12), type := 38, pos := "more.go:28", after := #[], guard := none }) (v := _) rfl (by kernel_rfl) (by kernel_rfl) (by kernel_rfl) (fun _ _ _ h => h) (Or.inl ⟨by rfl, ?hyb3⟩) hH0 ?rb3
        case hyb3 => (intro w' hSw; have x0 : w'.cell? ⟨E, 0, none⟩ = some (.int .i64 0) := (hSw 0 (by omega)).1; have x1 : w'.cell? ⟨E, 1, none⟩ = some (.int .i64 x) := (hSw 1 (by omega)).1; have x2 : w'.cell? ⟨E, 2, none⟩ = some (.int .i64 sh) := (hSw 2 (by omega)).1; have x3 : w'.cell? ⟨E, 3, none⟩ = some (.int .u8 f) := (hSw 3 (by omega)).1; clear hSw; go_simp; try with_reducible rfl)
        simp only [Act.put, List.setIfInBounds_toArray, List.set_cons_zero, List.set_cons_succ]
        refine wpAnyH_ready (rs := [4]) (by kernel_rfl) (by simp) ?_
        refine AllReadyH.cons (o := { dst := some 76, op := Op.call { callee := Callee.value (Operand.func 17), args := #[Operand.tmp 75], argTypes := #[38] }, type := 28, pos := "more.go:28", after := #[{ on := 3, ground := Ground.data }], guard := none }) rfl (fun K hK => ?_) AllReadyH.nil
        refine step_call_want (vs := #[.agg #[.int .i64 0, .int .i64 x, .int .i64 sh, .int .u8 f]]) (R := DataR w7 sh f) (by rfl) 17 #[Operand.tmp 75] #[38] rfl (by simp [Act.eval]) call17 (data_post ((Keep.refl _ w7).drew) 0 x sh f) ?_
        rintro u w8 ⟨D2, rfl, hD2, hBD2, hk8⟩
        refine hK.out _ _ (hX7.keep hk8 (fun e => e)) (fun hH1 => ?_)
        clear hK K hH0
        simp only [Act.put, List.setIfInBounds_toArray, List.set_cons_zero, List.set_cons_succ]
        refine wpAnyH_ready (rs := [5]) (by kernel_rfl) (by simp) ?_
        refine AllReadyH.cons (o := { dst := some 77, op := Op.call { callee := Callee.value (Operand.func 18), args := #[Operand.tmp 72, Operand.tmp 74, Operand.tmp 76], argTypes := #[35, 3, 28] }, type := 3, pos := "more.go:28", after := #[{ on := 0, ground := Ground.data }, { on := 2, ground := Ground.data }, { on := 4, ground := Ground.data }, { on := 4, ground := Ground.chain }], guard := none }) rfl (fun K hK => ?_) AllReadyH.nil
        refine step_call_want (vs := #[.pointer (some ⟨l.p, 0, none⟩), .int .i64 x, .slice (some ⟨D2, 0, none⟩) (howMany sh) (howMany sh)]) (R := RProgR l s x sh f w8) (by rfl) 18 #[Operand.tmp 72, Operand.tmp 74, Operand.tmp 76] #[35, 3, 28] rfl (by simp [Act.eval]) call18 (rprog_post (hP7.aside hk8).rm hcx T.ok (by omega) x sh f hBD2 (fun e => by have := hP7.lt D2 (Or.inr e); omega)) ?_
        rintro u w9 ⟨rfl, y, hm9, hc9, hk9⟩
        refine hK.out _ _ ((hX7.keep hk8 (fun e => e)).keep hk9 hEl) (fun hH2 => ?_)
        clear hK K hH1
        simp only [Act.put, List.setIfInBounds_toArray, List.set_cons_zero, List.set_cons_succ]
        refine wpAnyH_done (by kernel_rfl) ?_ _
        refine NoPanic.normal ?_
        have hP9 := (hP7.aside hk8).ref hm9 hk9
        go_wp2_with fail
        refine ⟨⟨j + 1, (s.call0 x (howMany sh) (rise f)).2, by omega, by go_num, ⟨⟨y, hP9, hc9⟩, T.ok.call0 x (howMany sh) (rise_byte f), by rw [(Fl.call0_P s x (howMany sh) (rise f)).2]; exact T.B, by rw [(Fl.call0_P s x (howMany sh) (rise f)).1]; exact T.P⟩, hworn.call0 x (howMany sh) (rise f), ?_⟩, by simp [intOf]; omega⟩
        rw [Fl.call0_wear]
        exact ((((hwq5.keep hk6 (fun e => e)).keep hk7 hqo).keep hk8 (fun e => e)).keep hk9 hql)
      have rr := hP5.rm.stats
      have n1 : ¬ (l.p = E) := fun e => hEl (Or.inl e.symm)
      have n2 : ¬ (E = l.p) := fun e => hEl (Or.inl e)
      by_cases o1 : op = 1
      · subst o1
        obtain ⟨r9, r10, r11⟩ := rr
        clear r9 r10
        go_wp2_with (guard_target =~ wpList _ _ _ (Oper.mk _ (Op.store 38 _ _) _ _ _ _ :: _) _ _; refine wpList_store_run rfl 38 (.tmp 12) (.tmp 61) rfl (by rfl) (by rfl) hst ?_)
        refine (call1_any hP5.mem T.ok (by omega) x).mono ?_
        rintro e w6 ⟨rfl, hm6, hk6⟩
        have hP6 := hP5.own hm6 hk6
        have hX6 := hX.keep hk6 hEo
        have x1' : w6.cell? ⟨E, 1, none⟩ = some (.int .i64 x) := (hX6 1 (by omega)).1
        clear hst c0 c1 c2 c3 x0 x1 r11
        go_wp2_with fail
        refine (rcall1_any hP6.rm hcx T.ok (by omega) x).mono ?_
        rintro e w7 ⟨rfl, y, hm7, hc7, hk7⟩
        have hP7 := hP6.ref hm7 hk7
        have hX7 := hX6.keep hk7 hEl
        have x1 : w7.cell? ⟨E, 1, none⟩ = some (.int .i64 x) := (hX7 1 (by omega)).1
        have hwq7 := (hwq5.keep hk6 hqo).keep hk7 hql
        obtain ⟨r9, r10, r11⟩ := hP7.rm.stats
        have T7 : Two w1 w7 p c k l (s.call1 x).2 (j + 1) B P := ⟨⟨y, hP7, hc7⟩, T.ok.call1 x, by rw [(Fl.call1_P s x).2]; exact T.B, by rw [(Fl.call1_P s x).1]; exact T.P⟩
        have hworn7 := hworn.call1 x
        have her := T.ok.erases
        have hwe := T.ok.wear
        clear x1' r9 r10
        by_cases hbg : 0 ≤ x ∧ x < s.B ∧ s.begun x.toNat = true
        · obtain ⟨e1, e2⟩ := Fl.call1_wear ⟨hbg.1, hbg.2.1⟩ hbg.2.2
          rw [e1] at r11
          obtain ⟨xb, rfl⟩ := Int.eq_ofNat_of_zero_le hbg.1
          have hxB : xb < B := by have := hbg.2.1; rw [T.B] at this; omega
          have hxB' : (xb : Int) < B := by omega
          have hqc := (hwq7 xb hxB).1
          have hqf := (hwq7 xb hxB).2
          have hgt : (s.erases : Int) < ((s.erases + 1 : Nat) : Int) := by omega
          have hwx := hwe xb
          have hwx' : IntKind.i64.wrap ((s.wear xb : Int) + 1) = (s.wear xb : Int) + 1 := by rw [IntKind.wrap_i64]; omega
          rw [Int.toNat_natCast] at e2
          have hset := hwq7.set xb (.int .i64 ((s.wear xb : Int) + 1))
          have HE2 : Hid ((s.call1 (xb : Int)).2.wear = fun x => if x = xb then s.wear x + 1 else s.wear x) := e2
          have T8 : Two w1 (w7.setCell ⟨q, xb, none⟩ (.int .i64 ((s.wear xb : Int) + 1))) p c k l (s.call1 (xb : Int)).2 (j + 1) B P :=
            ⟨⟨y, hP7.other (S := fun b => b = q) ((Keep.refl (fun b => b = q) w7).setCell (p := ⟨q, xb, none⟩) (Or.inl rfl) _) (fun b hb => by subst hb; exact ⟨hq1, hqo, hql⟩), hc7⟩, T7.ok, T7.B, T7.P⟩
          clear e1 e2 hbg hP7 hm7 hk7 hP6 hm6 hk6 hc7 hX6 hX7
          generalize (s.call1 (xb : Int)).2 = t at *
          go_wp2_with fail
          refine ⟨⟨j + 1, t, by omega, by go_num, T8, hworn7, hset.congr (fun i hi => ?_)⟩, by simp [intOf]; omega⟩
          rw [HE2.out]
          by_cases e : i = xb
          · subst e; rw [if_pos rfl]; simp
          · rw [if_neg e]; simp [e]
        · obtain ⟨e1, e2⟩ := Fl.call1_still hbg
          rw [e1] at r11
          have HE2 : Hid ((s.call1 x).2.wear = s.wear) := e2
          have hgt : ¬ (s.erases : Int) < (s.erases : Int) := by omega
          clear e1 e2 hbg hP7 hm7 hk7 hP6 hm6 hk6 hc7 hX6 hX7
          generalize (s.call1 x).2 = t at *
          go_wp2_with fail
          refine ⟨⟨j + 1, t, by omega, by go_num, T7, hworn7, by rw [HE2.out]; exact hwq7⟩, by simp [intOf]; omega⟩
      by_cases o3 : op = 3
      · subst o3
        go_wp2_with (guard_target =~ wpList _ _ _ (Oper.mk _ (Op.store 38 _ _) _ _ _ _ :: _) _ _; refine wpList_store_run rfl 38 (.tmp 12) (.tmp 61) rfl (by rfl) (by rfl) hst ?_)
        refine (cut_any hP5.mem x).mono ?_
        rintro e w6 ⟨rfl, hm6, hk6⟩
        obtain ⟨⟨y6, hP6⟩, hcut⟩ := (T.aside hk5).cut hxb hm6 hk6
        obtain ⟨hcut1, hcut2⟩ := hcut w6 ⟨y6, hP6⟩
        have x1' : w6.cell? ⟨E, 1, none⟩ = some (.int .i64 x) := ((hX.keep hk6 hEo) 1 (by omega)).1
        obtain ⟨t0, t1, t2, t3, t4, t5, t6, t7, t8⟩ := hP6.rm.tops
        have f6 := hP6.rm.free 6 (by omega)
        have hwq6 := hwq5.keep hk6 hqo
        have hqp : q ≠ l.p := fun e => hql (Or.inl e)
        clear hst c0 c1 c2 c3 x0 x1 t0 t1 t2 t3 t4 t5 t7 t8 rr
        by_cases hx0 : 0 ≤ x
        · have T7 := hcut2 hx0
          clear hcut hcut1 hcut2
          go_wp2_with fail
          exact ⟨⟨j + 1, s.setCut x, by omega, by go_num, T7.mono (by omega), hworn.setCut x, (hwq6.other (a := ⟨l.p, 6, none⟩) hqp _).other (a := ⟨l.p, 6, none⟩) hqp _⟩, by simp [intOf]; omega⟩
        · have T7 := hcut1 (by omega)
          clear hcut hcut1 hcut2
          go_wp2_with fail
          exact ⟨⟨j + 1, s.setCut x, by omega, by go_num, T7.mono (by omega), hworn.setCut x, hwq6.other (a := ⟨l.p, 6, none⟩) hqp _⟩, by simp [intOf]; omega⟩
      by_cases o4 : op = 4
      · subst o4
        go_wp2_with (guard_target =~ wpList _ _ _ (Oper.mk _ (Op.store 38 _ _) _ _ _ _ :: _) _ _; refine wpList_store_run rfl 38 (.tmp 12) (.tmp 61) rfl (by rfl) (by rfl) hst ?_)
        refine (fail_any hP5.mem x).mono ?_
        rintro e w6 ⟨rfl, hm6, hk6⟩
        obtain ⟨y6, hc6, hP6, hcut1, hcut2⟩ := (T.aside hk5).fail hxb hm6 hk6
        have x1' : w6.cell? ⟨E, 1, none⟩ = some (.int .i64 x) := ((hX.keep hk6 hEo) 1 (by omega)).1
        obtain ⟨t0, t1, t2, t3, t4, t5, t6, t7, t8⟩ := hP6.rm.tops
        have f7 := hP6.rm.free 7 (by omega)
        have hwq6 := hwq5.keep hk6 hqo
        have hqp : q ≠ l.p := fun e => hql (Or.inl e)
        clear hst c0 c1 c2 c3 x0 x1 t0 t1 t2 t3 t4 t5 t6 t8 rr
        by_cases hx0 : 0 ≤ x
        · have T7 := hcut2 hx0
          clear hcut1 hcut2
          go_wp2_with fail
          exact ⟨⟨j + 1, s.setFail x, by omega, by go_num, T7.mono (by omega), hworn.setFail x, (hwq6.other (a := ⟨l.p, 7, none⟩) hqp _).other (a := ⟨l.p, 7, none⟩) hqp _⟩, by simp [intOf]; omega⟩
        · have T7 := hcut1 (by omega)
          clear hcut1 hcut2
          go_wp2_with fail
          exact ⟨⟨j + 1, s.setFail x, by omega, by go_num, T7.mono (by omega), hworn.setFail x, hwq6.other (a := ⟨l.p, 7, none⟩) hqp _⟩, by simp [intOf]; omega⟩
      by_cases o5 : op = 5
      · subst o5
        go_wp2_with (guard_target =~ wpList _ _ _ (Oper.mk _ (Op.store 38 _ _) _ _ _ _ :: _) _ _; refine wpList_store_run rfl 38 (.tmp 12) (.tmp 61) rfl (by rfl) (by rfl) hst ?_)
        refine (on_any hP5.mem).mono ?_
        rintro e w6 ⟨rfl, hm6, hk6⟩
        obtain ⟨y6, hP6, T7⟩ := (T.aside hk5).on hm6 hk6
        obtain ⟨t0, t1, t2, t3, t4, t5, t6, t7, t8⟩ := hP6.rm.tops
        have f6 := hP6.rm.free 6 (by omega)
        have f8 := hP6.rm.free 8 (by omega)
        have hwq6 := hwq5.keep hk6 hqo
        have hqp : q ≠ l.p := fun e => hql (Or.inl e)
        clear hst c0 c1 c2 c3 x0 x1 t0 t1 t2 t3 t4 t5 t7 rr
        go_wp2_with fail
        exact ⟨⟨j + 1, s.turnOn, by omega, by go_num, T7.mono (by omega), hworn.turnOn, (hwq6.other (a := ⟨l.p, 8, none⟩) hqp _).other (a := ⟨l.p, 6, none⟩) hqp _⟩, by simp [intOf]; omega⟩
      · go_wp2_with (guard_target =~ wpList _ _ _ (Oper.mk _ (Op.store 38 _ _) _ _ _ _ :: _) _ _; refine wpList_store_run rfl 38 (.tmp 12) (.tmp 61) rfl (by rfl) (by rfl) hst ?_)
        exact ⟨⟨j + 1, s, by omega, by go_num, (T.aside hk5).mono (by omega), hworn, hwq5⟩, by simp [intOf]; omega⟩
    · obtain rfl : j = len := by omega
      have hm := hPr.mem
      have hsB := T.B
      have hKK : Keep (fun _ => False) w wr := k1.trans hPr.keep
      have hst := stat_any hm
      have her := T.ok.erases
      have hwl := fun n (hn : n ≤ B) => wsum_le s.wear n B hn
      unfold Fl.Worn at hworn
      rw [hsB] at hworn
      rw [hworn] at hwl
      have HW : Hid (wsum s.wear B = s.erases) := hworn
      clear hworn T hPr hcx hA
      go_wp2_with fail
      go_loop [14, 15] (fun sm i => ∃ n : Nat, n ≤ B + 2 ∧ i = .int .i64 ((n : Int) - 1) ∧ sm = .int .i64 (wsum s.wear (min (n - 1) B))) (fun _ i => (B + 1 - intOf i).toNat)
      case atStart => exact ⟨0, by omega, rfl, rfl⟩
      case round =>
        obtain ⟨n, hn, rfl, rfl⟩ := hrel
        by_cases hend : n = B + 2
        · subst hend
          have e1 : min (B + 2 - 1) B = B := by omega
          rw [e1, HW.out]
          have e2 : ¬ ((B + 2 : Nat) : Int) - 1 ≤ B := by omega
          go_wp2_with fail
          refine hst.mono ?_
          rintro e w9 ⟨rfl, hm9, hk9⟩
          have hfd := stat_field2 w9 s.reads s.progs s.erases
          go_wp2_with fail
          go_ret
          exact ⟨rfl, hKK.trans hk9⟩
        · by_cases hin : 1 ≤ n ∧ n ≤ B
          · obtain ⟨m, rfl⟩ : ∃ m, n = m + 1 := ⟨n - 1, by omega⟩
            have hmB : m < B := by omega
            have hwr := wear_any hm (b := m) (by omega)
            have hqc := (hwq m hmB).1
            have e1 : min (m + 1 - 1) B = m := by omega
            have e2 : ((m + 1 : Nat) : Int) - 1 = m := by omega
            have h1 := hwl m (by omega)
            have h2 := hwl (m + 1) (by omega)
            have HS : Hid (wsum s.wear (m + 1) = wsum s.wear m + s.wear m) := rfl
            rw [HS.out] at h2
            rw [e1, e2]
            have d1 : (m : Int) ≤ B := by omega
            have d2 : ¬ (m : Int) < 0 := by omega
            have d3 : ¬ (B : Int) ≤ m := by omega
            have d4 : (m : Int) < B := by omega
            have d5 : IntKind.i64.wrap ((wsum s.wear m : Int) + s.wear m) = (wsum s.wear m : Int) + s.wear m := by rw [IntKind.wrap_i64]; omega
            clear hst hwl hsB
            go_wp2_with fail
            refine hwr.mono ?_
            rintro e w9 ⟨rfl, rfl⟩
            go_wp2_with fail
            go_round
            case rel =>
              refine ⟨m + 2, by omega, by go_num, ?_⟩
              rw [show min (m + 2 - 1) B = m + 1 by omega, HS.out]
              go_num
            case measure => simp [intOf]; omega
          · have hno : ((n : Int) - 1 < 0 ∨ (s.B : Int) ≤ (n : Int) - 1) := by rw [hsB]; omega
            have hwr := wear_no hm hno
            have d1 : (n : Int) - 1 ≤ B := by omega
            have d6 : ((n : Int) - 1 < 0 ∨ (B : Int) ≤ (n : Int) - 1) := by omega
            have e3 : min (n + 1 - 1) B = min (n - 1) B := by omega
            have HM : Hid (min (n + 1 - 1) B = min (n - 1) B) := e3
            clear hst hwl hsB hno e3
            by_cases hneg : (n : Int) - 1 < 0
            · go_wp2_with fail
              refine hwr.mono ?_
              rintro e w9 ⟨rfl, rfl⟩
              go_wp2_with fail
              go_round
              case rel => exact ⟨n + 1, by omega, by go_num, by rw [HM.out]⟩
              case measure => simp [intOf]; omega
            · have hge : (B : Int) ≤ (n : Int) - 1 := by omega
              go_wp2_with fail
              refine hwr.mono ?_
              rintro e w9 ⟨rfl, rfl⟩
              go_wp2_with fail
              go_round
              case rel => exact ⟨n + 1, by omega, by go_num, by rw [HM.out]⟩
              case measure => simp [intOf]; omega
end Nd
end Go.Proofs.Ytjafjofonckaaaa
