/-
  The statement of whole plays, walked: for any size and any list of calls it returns true, and whatever was in memory is as it was.
-/
import Derived.Test.YtjafjofonckaaaaIs
namespace Go.Proofs.Ytjafjofonckaaaa
open Go.ChangeShapes Go.WideShapes Go.ChangeAt Go.RowKit
namespace Nd

theorem ActAt.still {w w' : World} {b o : Nat} {op a sh f : Int} (h : ActAt w b o op a sh f) (k : Keep (fun _ => False) w w') : ActAt w' b o op a sh f := by
  have e : w'.heap[b]? = w.heap[b]? := k.block b (World.block_lt_of_cell? w _ h.c0) (fun e => e)
  exact ⟨by rw [World.cell?_of_block (w := w) (a := ⟨b, o, none⟩) e]; exact h.c0, by rw [World.cell?_of_block (w := w) (a := ⟨b, o + 1, none⟩) e]; exact h.c1, by rw [World.cell?_of_block (w := w) (a := ⟨b, o + 2, none⟩) e]; exact h.c2, by rw [World.cell?_of_block (w := w) (a := ⟨b, o + 3, none⟩) e]; exact h.c3, h.wa⟩
theorem Cuts.call2 {s : Fl} {x : Int} (h : Cuts s x) (n : Int) : Cuts (s.call2 n) x := by
  unfold Fl.call2
  split
  · exact h
  · split
    · exact h
    · exact h
/-- Behind a round. -/
theorem Two.round {w0 wr : World} {p c k : Nat} {l : Pl} {t : Fl} {M B P : Nat} {y : Int} {x : Int} (h : Pair w0 wr p c k l (t.call2 x) (t.call2 x) y) (hc : Cuts t y) (ok : t.Ok M) (hB : t.B = B) (hP : t.P = P) : Two w0 wr p c k l (t.call2 x) (M + 1) B P :=
  ⟨⟨y, h, hc.call2 x⟩, ok.call2 x, by rw [(Fl.call2_P t x).2]; exact hB, by rw [(Fl.call2_P t x).1]; exact hP⟩

set_option maxRecDepth 100000 in
set_option maxHeartbeats 16000000 in
theorem plays_main (w : World) {B P len cap : Nat} {a : Option Addr} (b1 : 1 ≤ B) (b2 : B ≤ 8) (p1 : 1 ≤ P) (p2 : P ≤ 8) (h40 : len ≤ 40) (hlc : len ≤ cap) (hcm : cap ≤ 9223372036854775807)
    (hA : len = 0 ∨ ∃ b o, a = some ⟨b, o, none⟩ ∧ ∀ i, i < len → ∃ op x sh f, ActAt w b (o + i * 4) op x sh f) :
    Calls Try.prog 4 #[.int .i64 B, .int .i64 P, .slice a len cap] w fun e w' => e = .returned (.bool true) ∧ Keep (fun _ => False) w w' := by
  have g1 : ¬ (B : Int) < 1 := by omega
  have g2 : ¬ (64 : Int) < B := by omega
  have g3 : ¬ (P : Int) < 1 := by omega
  have g4 : ¬ (32 : Int) < P := by omega
  have g5 : ¬ (40 : Int) < len := by omega
  have g6 : ¬ (8 : Int) < B := by omega
  have g7 : ¬ (8 : Int) < P := by omega
  go_enter Try.func4, Try.ntmps4
  go_wp2_with fail
  refine (awake_any w).mono ?_
  rintro e w1 ⟨rfl, k1⟩
  go_wp2_with fail
  refine (new_any (B := B) (P := P) b1 (by omega) p1 (by omega)).mono ?_
  rintro e w2 ⟨p, c, k, rfl, m0, hp, hc, hk, K0⟩
  go_wp2_with fail
  refine (rnew_any (B := B) (P := P) (by omega) (by omega)).mono ?_
  rintro e w3 ⟨l, rfl, r0, hl, K1⟩
  have PR0 : Pair w1 w3 p c k l (Fl.new B P) (Fl.new B P) (-1) := Pair.start m0 b1 p1 hp hc hk K0 r0 b1 p1 hl K1
  have T0 : Two w1 w3 p c k l (Fl.new B P) 0 B P := ⟨⟨-1, PR0, ⟨fun _ => rfl, by omega, by omega⟩⟩, Fl.Ok.new b1 (by omega) p1 (by omega) 0, rfl, rfl⟩
  clear m0 hp hc hk K0 r0 hl K1 PR0
  go_wp2_with fail
  have hlen : (len : Int) ≤ 40 := by omega
  go_loopw [10] (fun i wr => ∃ (j : Nat) (s : Fl), j ≤ len ∧ i = .int .i64 j ∧ Two w1 wr p c k l s (2 * j) B P) (fun i _ => len - (intOf i).toNat)
  case atStart => exact ⟨0, Fl.new B P, by omega, rfl, T0⟩
  case round =>
    obtain ⟨j, s, hj, rfl, T⟩ := hrel
    clear T0
    obtain ⟨y0, hPr, hcx⟩ := T.pair
    by_cases hlt : j < len
    · rcases hA with h0 | ⟨b, o, rfl, hall⟩
      · omega
      obtain ⟨op, x, sh, f, hact⟩ := hall j hlt
      have hact2 := (hact.still k1).still hPr.keep
      have c0 := hact2.c0
      have c1 := hact2.c1
      have c2 := hact2.c2
      have c3 := hact2.c3
      have hxb := bounds_i64 hact.wa.2.1
      have hlt' : (j : Int) < len := by omega
      clear hall hact hact2
      obtain ⟨w5, hst, hX, hk5⟩ := new_act wr op x sh f
      have hEo : ¬ Own p c k wr.heap.size := fun e => by have := hPr.lt _ (Or.inl e); omega
      have hEl : ¬ l.own wr.heap.size := fun e => by have := hPr.lt _ (Or.inr e); omega
      have hP5 := hPr.aside hk5
      have x0 : w5.cell? ⟨wr.heap.size, 0, none⟩ = some (.int .i64 op) := (hX 0 (by omega)).1
      have x1 : w5.cell? ⟨wr.heap.size, 1, none⟩ = some (.int .i64 x) := (hX 1 (by omega)).1
      have x2 : w5.cell? ⟨wr.heap.size, 2, none⟩ = some (.int .i64 sh) := (hX 2 (by omega)).1
      have x3 : w5.cell? ⟨wr.heap.size, 3, none⟩ = some (.int .u8 f) := (hX 3 (by omega)).1
      have hE := hX.lt (by omega)
      obtain ⟨E, hEE⟩ : ∃ E, wr.heap.size = E := ⟨_, rfl⟩
      simp only [hEE] at hEo hEl x0 x1 x2 x3 hX hst hE
      have n1 : ¬ (l.p = E) := fun e => hEl (Or.inl e.symm)
      have n2 : ¬ (E = l.p) := fun e => hEl (Or.inl e)
      by_cases o0 : op = 0
      · subst o0
        go_wp2_with (guard_target =~ wpList _ _ _ (Oper.mk _ (Op.store 38 _ _) _ _ _ _ :: _) _ _; refine wpList_store_run rfl 38 (.tmp 11) (.tmp 81) rfl (by rfl) (by rfl) hst ?_)
        refine (data_any 0 x sh f).mono ?_
        rintro e w6 ⟨rfl, hBD, hk6⟩
        clear hst c0 c1 c2 c3 x0 x1 x2 x3
        have hmd := howMany_bd sh
        obtain ⟨D, hD⟩ : ∃ D, w5.heap.size + 1 = D := ⟨_, rfl⟩
        simp only [hD] at hBD ⊢
        have hrD : ∀ w', Blk w' D (howMany sh) (fun i => .int .u8 (rise f i)) → Row w' (some ⟨D, 0, none⟩) (howMany sh) (howMany sh) (tab (howMany sh) (rise f)) := fun w' h => by
          have := Blk.row h (rise_byte f) 0 (howMany sh) (howMany sh) (by omega) (by omega) (by omega)
          simpa using this
        have htD := (hrD w6 hBD).text
        have hln : (tab (howMany sh) (rise f)).length = howMany sh := tab_len _ _
        obtain ⟨cap7, w7, hrun7, hG7⟩ := Gr.text w6 (tab (howMany sh) (rise f)) (tab_byte (rise_byte f)) (by rw [hln]; omega)
        obtain ⟨g8, cap8, w8, hrun8, hG8⟩ := hG7.one hln (x := 9) (by omega) (by omega)
        rw [hln] at hrun7
        have hln8 : (tab (howMany sh) (rise f) ++ [9]).length = howMany sh + 1 := by rw [List.length_append, hln]; rfl
        have hR8 := hG8.at hln8
        have hr8 : Row w8 (some ⟨g8, 0, none⟩) (howMany sh) cap8 (tab (howMany sh) (rise f)) := Row.init (m := [9]) hR8
        have hb8 := hr8.blk hG8.free
        have hk68 := hG8.keep
        have hP8 := (hP5.aside hk6).aside hk68
        have hX8 := (hX.keep hk6 (fun e => e)).keep hk68 (fun e => e)
        have hg8n := hG8.new
        have hk6s := hk6.size
        have hg8 : ¬ Own p c k g8 := fun e => by have := hP5.lt _ (Or.inl e); omega
        have hg8l : ¬ l.own g8 := fun e => by have := hP5.lt _ (Or.inr e); omega
        have hDo : ¬ Own p c k D := fun e => by have := hP5.lt _ (Or.inl e); omega
        have hDl : ¬ l.own D := fun e => by have := hP5.lt _ (Or.inr e); omega
        have hc8 := hr8.2.1
        have hc8' : (howMany sh : Int) ≤ cap8 := by omega
        have hBD8 := hBD.keep hk68 (fun e => e)
        go_wp2_with (at_builtin; refine wpList_append_run rfl (.tmp 90) (.tmp 91) 28 rfl (by rfl) (by rfl) hrun8 ?_)
        clear hrun8 hrun7 htD hG7
        refine wp_region_noPanic ?_
        refine wp_region_held_drew (S := fun w' => Blk w' E 4 (four 0 x sh f)) (by kernel_rfl) (hX8.keep ((Keep.refl (fun _ => False) _).drew) (fun e => e)) (fun hH0 => ?_)
        refine' wpAnyH_take (i := 0) (oi := { dst := some 93, op := Op.move (Operand.tmp 7), type := 23, pos := "law.go:144", after := #[], guard := none }) (v := _) rfl (by kernel_rfl) (by kernel_rfl) (by kernel_rfl) (fun _ _ _ h => h) (Or.inl ⟨by rfl, ?hya0⟩) hH0 ?ra0
        case hya0 => (intro w' hSw; clear hSw; go_simp; try with_reducible rfl)
        simp only [Act.put, List.setIfInBounds_toArray, List.set_cons_zero, List.set_cons_succ]
        refine' wpAnyH_take (i := 1) (oi := { dst := some 94, op := Op.fieldAddr 38 (Operand.tmp 11) 1, type := 0, pos := "law.go:144", after := #[], guard := none }) (v := _) rfl (by kernel_rfl) (by kernel_rfl) (by kernel_rfl) (fun _ _ _ h => h) (Or.inl ⟨by rfl, ?hya1⟩) hH0 ?ra1
        case hya1 => (intro w' hSw; have x0 : w'.cell? ⟨E, 0, none⟩ = some (.int .i64 0) := (hSw 0 (by omega)).1; have x1 : w'.cell? ⟨E, 1, none⟩ = some (.int .i64 x) := (hSw 1 (by omega)).1; clear hSw; go_simp; try with_reducible rfl)
        simp only [Act.put, List.setIfInBounds_toArray, List.set_cons_zero, List.set_cons_succ]
        refine' wpAnyH_take (i := 2) (oi := { dst := some 95, op := Op.load 3 (Operand.tmp 94), type := 3, pos := "law.go:144", after := #[{ on := 1, ground := Ground.data }], guard := none }) (v := _) rfl (by kernel_rfl) (by kernel_rfl) (by kernel_rfl) (fun _ _ _ h => h) (Or.inl ⟨by rfl, ?hya2⟩) hH0 ?ra2
        case hya2 => (intro w' hSw; have x0 : w'.cell? ⟨E, 0, none⟩ = some (.int .i64 0) := (hSw 0 (by omega)).1; have x1 : w'.cell? ⟨E, 1, none⟩ = some (.int .i64 x) := (hSw 1 (by omega)).1; clear hSw; go_simp; try with_reducible rfl)
        simp only [Act.put, List.setIfInBounds_toArray, List.set_cons_zero, List.set_cons_succ]
        refine' wpAnyH_take (i := 3) (oi := { dst := some 96, op := Op.move (Operand.tmp 13), type := 28, pos := "law.go:144", after := #[], guard := none }) (v := _) rfl (by kernel_rfl) (by kernel_rfl) (by kernel_rfl) (fun _ _ _ h => h) (Or.inl ⟨by rfl, ?hya3⟩) hH0 ?ra3
        case hya3 => (intro w' hSw; clear hSw; go_simp; try with_reducible rfl)
        simp only [Act.put, List.setIfInBounds_toArray, List.set_cons_zero, List.set_cons_succ]
        refine' wpAnyH_take (i := 4) (oi := { dst := some 97, op := Op.move (Operand.tmp 12), type := 28, pos := "law.go:144", after := #[], guard := none }) (v := _) rfl (by kernel_rfl) (by kernel_rfl) (by kernel_rfl) (fun _ _ _ h => h) (Or.inl ⟨by rfl, ?hya4⟩) hH0 ?ra4
        case hya4 => (intro w' hSw; clear hSw; go_simp; try with_reducible rfl)
        simp only [Act.put, List.setIfInBounds_toArray, List.set_cons_zero, List.set_cons_succ]
        refine' wpAnyH_take (i := 5) (oi := { dst := some 98, op := Op.call { callee := Callee.builtin Builtin.len, args := #[Operand.tmp 97], argTypes := #[28] }, type := 3, pos := "law.go:144", after := #[{ on := 4, ground := Ground.data }], guard := none }) (v := _) rfl (by kernel_rfl) (by kernel_rfl) (by kernel_rfl) (fun _ _ _ h => h) (Or.inl ⟨by rfl, ?hya5⟩) hH0 ?ra5
        case hya5 => (intro w' hSw; clear hSw; go_simp; try with_reducible rfl)
        simp only [Act.put, List.setIfInBounds_toArray, List.set_cons_zero, List.set_cons_succ]
        refine' wpAnyH_take (i := 6) (oi := { dst := some 99, op := Op.slice 28 (Operand.tmp 96) none (some (Operand.tmp 98)) none, type := 28, pos := "law.go:144", after := #[{ on := 3, ground := Ground.data }, { on := 5, ground := Ground.data }], guard := none }) (v := _) rfl (by kernel_rfl) (by kernel_rfl) (by kernel_rfl) (fun _ _ _ h => h) (Or.inl ⟨by rfl, ?hya6⟩) hH0 ?ra6
        case hya6 => (intro w' hSw; clear hSw; go_simp; try with_reducible rfl)
        simp only [Act.put, List.setIfInBounds_toArray, List.set_cons_zero, List.set_cons_succ]
        refine wpAnyH_ready (rs := [7]) (by kernel_rfl) (by simp) ?_
        refine AllReadyH.cons (o := { dst := some 100, op := Op.call { callee := Callee.value (Operand.func 10), args := #[Operand.tmp 93, Operand.tmp 95, Operand.tmp 99], argTypes := #[23, 3, 28] }, type := 24, pos := "law.go:144", after := #[{ on := 0, ground := Ground.data }, { on := 2, ground := Ground.data }, { on := 6, ground := Ground.data }], guard := none }) rfl (fun K hK => ?_) AllReadyH.nil
        refine step_call_want (vs := #[.pointer (some ⟨p, 0, none⟩), .int .i64 x, .slice (some ⟨g8, 0, none⟩) (howMany sh) cap8]) (R := fun u w2 => u = .int .i64 ((s.call0 x (howMany sh) (rise f)).1 : Nat) ∧ Mem w2 p c k (s.call0 x (howMany sh) (rise f)).2 ∧ Keep (Own p c k) w8 w2) (by rfl) 10 #[Operand.tmp 93, Operand.tmp 95, Operand.tmp 99] #[23, 3, 28] rfl (by simp [Act.eval]) call10 ((call0_any hP8.mem.drew T.ok (by omega) x (rise_byte f) hb8.drew hg8 hr8.2.1 hr8.2.2.1).mono (by rintro e w9 ⟨rfl, hm, hk⟩; exact ⟨_, rfl, rfl, hm, ((Keep.refl _ w8).drew).trans hk⟩)) ?_
        rintro u w9 ⟨rfl, hm9, hk9⟩
        refine hK.out _ _ (hX8.keep hk9 hEo) (fun hH1 => ?_)
        clear hK K hH0
        simp only [Act.put, List.setIfInBounds_toArray, List.set_cons_zero, List.set_cons_succ]
        refine' wpAnyH_take (i := 8) (oi := { dst := some 14, op := Op.assign (Operand.tmp 100), type := 24, pos := "law.go:144", after := #[{ on := 7, ground := Ground.data }, { on := 7, ground := Ground.chain }, { on := 0, ground := Ground.phase }, { on := 1, ground := Ground.phase }, { on := 2, ground := Ground.phase }, { on := 3, ground := Ground.phase }, { on := 4, ground := Ground.phase }, { on := 5, ground := Ground.phase }, { on := 6, ground := Ground.phase }, { on := 7, ground := Ground.phase }], guard := none }) (v := _) rfl (by kernel_rfl) (by kernel_rfl) (by kernel_rfl) (fun _ _ _ h => h) (Or.inl ⟨by rfl, ?hya8⟩) hH1 ?ra8
        case hya8 => (intro w' hSw; clear hSw; go_simp; try with_reducible rfl)
        simp only [Act.put, List.setIfInBounds_toArray, List.set_cons_zero, List.set_cons_succ]
        refine wpAnyH_done (by kernel_rfl) ?_ _
        refine NoPanic.normal ?_
        have hP9 := hP8.own hm9 hk9
        have hX9 := hX8.keep hk9 hEo
        have x1 : w9.cell? ⟨E, 1, none⟩ = some (.int .i64 x) := (hX9 1 (by omega)).1
        have hBD9 := hBD8.keep hk9 hDo
        have hr := rcall0_any (cap := howMany sh) hP9.rm hcx T.ok (by omega) x (rise_byte f) hBD9 hDl
        go_wp2_with fail
        refine hr.mono ?_
        rintro e w10 ⟨rfl, y, hm10, hc10, hk10⟩
        have hP10 := hP9.ref hm10 hk10
        have ta := ((hR8.keep hk9 (fun b o e hS => hg8 (by simp only [Option.some.injEq, Addr.mk.injEq, and_true] at e; rw [e.1]; exact hS))).keep hk10 (fun b o e hS => hg8l (by simp only [Option.some.injEq, Addr.mk.injEq, and_true] at e; rw [e.1]; exact hS))).text
        have tb := (hrD w10 (hBD9.keep hk10 hDl)).text
        have e1 : strOfNums (tab (howMany sh) (rise f)) ++ { data := #[9] } = strOfNums (tab (howMany sh) (rise f) ++ [9]) := str_append _ [9]
        have f1 : ¬ 9223372036854775807 < (strOfNums (tab (howMany sh) (rise f))).size + 1 := by rw [strOfNums_size, hln]; omega
        have x1' : w10.cell? ⟨E, 1, none⟩ = some (.int .i64 x) := ((hX9.keep hk10 hEl) 1 (by omega)).1
        clear hr x1 hR8 hr8 hb8 hBD hBD8 hBD9 hrD
        go_wp2_with fail
        refine (is_any hP10 (T.ok.call0 x (howMany sh) (rise_byte f)) (by omega) x).mono ?_
        rintro e wf ⟨rfl, hPf⟩
        go_wp2_with fail
        exact ⟨⟨j + 1, (s.call0 x (howMany sh) (rise f) |>.2).call2 x, by omega, by go_num, (Two.round hPf hc10 (T.ok.call0 x (howMany sh) (rise_byte f)) (by rw [(Fl.call0_P s x (howMany sh) (rise f)).2]; exact T.B) (by rw [(Fl.call0_P s x (howMany sh) (rise f)).1]; exact T.P)).mono (by omega)⟩, by simp [intOf]; omega⟩
      by_cases o1 : op = 1
      · subst o1
        go_wp2_with (guard_target =~ wpList _ _ _ (Oper.mk _ (Op.store 38 _ _) _ _ _ _ :: _) _ _; refine wpList_store_run rfl 38 (.tmp 11) (.tmp 81) rfl (by rfl) (by rfl) hst ?_)
        clear hst c0 c1 c2 c3 x0 x1 x2 x3
        refine wp_region_noPanic ?_
        refine wp_region_held_drew (S := fun w' => Blk w' E 4 (four 1 x sh f)) (by kernel_rfl) (hX.keep ((Keep.refl (fun _ => False) _).drew) (fun e => e)) (fun hH0 => ?_)
        refine' wpAnyH_take (i := 0) (oi := { dst := some 118, op := Op.move (Operand.tmp 7), type := 23, pos := "law.go:149", after := #[], guard := none }) (v := _) rfl (by kernel_rfl) (by kernel_rfl) (by kernel_rfl) (fun _ _ _ h => h) (Or.inl ⟨by rfl, ?hyb0⟩) hH0 ?rb0
        case hyb0 => (intro w' hSw; clear hSw; go_simp; try with_reducible rfl)
        simp only [Act.put, List.setIfInBounds_toArray, List.set_cons_zero, List.set_cons_succ]
        refine' wpAnyH_take (i := 1) (oi := { dst := some 119, op := Op.fieldAddr 38 (Operand.tmp 11) 1, type := 0, pos := "law.go:149", after := #[], guard := none }) (v := _) rfl (by kernel_rfl) (by kernel_rfl) (by kernel_rfl) (fun _ _ _ h => h) (Or.inl ⟨by rfl, ?hyb1⟩) hH0 ?rb1
        case hyb1 => (intro w' hSw; have x0 : w'.cell? ⟨E, 0, none⟩ = some (.int .i64 1) := (hSw 0 (by omega)).1; have x1 : w'.cell? ⟨E, 1, none⟩ = some (.int .i64 x) := (hSw 1 (by omega)).1; clear hSw; go_simp; try with_reducible rfl)
        simp only [Act.put, List.setIfInBounds_toArray, List.set_cons_zero, List.set_cons_succ]
        refine' wpAnyH_take (i := 2) (oi := { dst := some 120, op := Op.load 3 (Operand.tmp 119), type := 3, pos := "law.go:149", after := #[{ on := 1, ground := Ground.data }], guard := none }) (v := _) rfl (by kernel_rfl) (by kernel_rfl) (by kernel_rfl) (fun _ _ _ h => h) (Or.inl ⟨by rfl, ?hyb2⟩) hH0 ?rb2
        case hyb2 => (intro w' hSw; have x0 : w'.cell? ⟨E, 0, none⟩ = some (.int .i64 1) := (hSw 0 (by omega)).1; have x1 : w'.cell? ⟨E, 1, none⟩ = some (.int .i64 x) := (hSw 1 (by omega)).1; clear hSw; go_simp; try with_reducible rfl)
        simp only [Act.put, List.setIfInBounds_toArray, List.set_cons_zero, List.set_cons_succ]
        refine' wpAnyH_take (i := 4) (oi := { dst := some 122, op := Op.move (Operand.tmp 9), type := 35, pos := "law.go:149", after := #[], guard := none }) (v := _) rfl (by kernel_rfl) (by kernel_rfl) (by kernel_rfl) (fun _ _ _ h => h) (Or.inl ⟨by rfl, ?hyb4⟩) hH0 ?rb4
        case hyb4 => (intro w' hSw; clear hSw; go_simp; try with_reducible rfl)
        simp only [Act.put, List.setIfInBounds_toArray, List.set_cons_zero, List.set_cons_succ]
        refine' wpAnyH_take (i := 5) (oi := { dst := some 123, op := Op.fieldAddr 38 (Operand.tmp 11) 1, type := 0, pos := "law.go:149", after := #[], guard := none }) (v := _) rfl (by kernel_rfl) (by kernel_rfl) (by kernel_rfl) (fun _ _ _ h => h) (Or.inl ⟨by rfl, ?hyb5⟩) hH0 ?rb5
        case hyb5 => (intro w' hSw; have x0 : w'.cell? ⟨E, 0, none⟩ = some (.int .i64 1) := (hSw 0 (by omega)).1; have x1 : w'.cell? ⟨E, 1, none⟩ = some (.int .i64 x) := (hSw 1 (by omega)).1; clear hSw; go_simp; try with_reducible rfl)
        simp only [Act.put, List.setIfInBounds_toArray, List.set_cons_zero, List.set_cons_succ]
        refine' wpAnyH_take (i := 6) (oi := { dst := some 124, op := Op.load 3 (Operand.tmp 123), type := 3, pos := "law.go:149", after := #[{ on := 5, ground := Ground.data }], guard := none }) (v := _) rfl (by kernel_rfl) (by kernel_rfl) (by kernel_rfl) (fun _ _ _ h => h) (Or.inl ⟨by rfl, ?hyb6⟩) hH0 ?rb6
        case hyb6 => (intro w' hSw; have x0 : w'.cell? ⟨E, 0, none⟩ = some (.int .i64 1) := (hSw 0 (by omega)).1; have x1 : w'.cell? ⟨E, 1, none⟩ = some (.int .i64 x) := (hSw 1 (by omega)).1; clear hSw; go_simp; try with_reducible rfl)
        simp only [Act.put, List.setIfInBounds_toArray, List.set_cons_zero, List.set_cons_succ]
        refine wpAnyH_ready (rs := [3]) (by kernel_rfl) (by simp) ?_
        refine AllReadyH.cons (o := { dst := some 121, op := Op.call { callee := Callee.value (Operand.func 13), args := #[Operand.tmp 118, Operand.tmp 120], argTypes := #[23, 3] }, type := 24, pos := "law.go:149", after := #[{ on := 0, ground := Ground.data }, { on := 2, ground := Ground.data }], guard := none }) rfl (fun K hK => ?_) AllReadyH.nil
        refine step_call_want (vs := #[.pointer (some ⟨p, 0, none⟩), .int .i64 x]) (R := fun u w2 => u = .int .i64 ((s.call1 x).1 : Nat) ∧ Mem w2 p c k (s.call1 x).2 ∧ Keep (Own p c k) w5 w2) (by rfl) 13 #[Operand.tmp 118, Operand.tmp 120] #[23, 3] rfl (by simp [Act.eval]) call13 ((call1_any hP5.mem.drew T.ok (by omega) x).mono (by rintro e w9 ⟨rfl, hm, hk⟩; exact ⟨_, rfl, rfl, hm, ((Keep.refl _ w5).drew).trans hk⟩)) ?_
        rintro u w9 ⟨rfl, hm9, hk9⟩
        refine hK.out _ _ (hX.keep hk9 hEo) (fun hH1 => ?_)
        clear hK K hH0
        simp only [Act.put, List.setIfInBounds_toArray, List.set_cons_zero, List.set_cons_succ]
        refine wpAnyH_ready (rs := [7]) (by kernel_rfl) (by simp) ?_
        refine AllReadyH.cons (o := { dst := some 125, op := Op.call { callee := Callee.value (Operand.func 19), args := #[Operand.tmp 122, Operand.tmp 124], argTypes := #[35, 3] }, type := 3, pos := "law.go:149", after := #[{ on := 4, ground := Ground.data }, { on := 6, ground := Ground.data }, { on := 3, ground := Ground.chain }], guard := none }) rfl (fun K hK => ?_) AllReadyH.nil
        refine step_call_want (vs := #[.pointer (some ⟨l.p, 0, none⟩), .int .i64 x]) (R := fun u w2 => u = .int .i64 ((s.call1 x).1 : Nat) ∧ ∃ y, RM w2 l (s.call1 x).2 y ∧ Cuts (s.call1 x).2 y ∧ Keep l.own w9 w2) (by rfl) 19 #[Operand.tmp 122, Operand.tmp 124] #[35, 3] rfl (by simp [Act.eval]) call19 ((rcall1_any (hP5.own hm9 hk9).rm hcx T.ok (by omega) x).mono (by rintro e w10 ⟨rfl, y, hm, hc, hk⟩; exact ⟨_, rfl, rfl, y, hm, hc, hk⟩)) ?_
        rintro u w10 ⟨rfl, y, hm10, hc10, hk10⟩
        refine hK.out _ _ ((hX.keep hk9 hEo).keep hk10 hEl) (fun hH2 => ?_)
        clear hK K hH1
        simp only [Act.put, List.setIfInBounds_toArray, List.set_cons_zero, List.set_cons_succ]
        refine' wpAnyH_take (i := 8) (oi := { dst := some 126, op := Op.binOp BinOp.neq 3 (Operand.tmp 121) (Operand.tmp 125) 3, type := 4, pos := "law.go:149", after := #[{ on := 3, ground := Ground.data }, { on := 7, ground := Ground.data }], guard := none }) (v := _) rfl (by kernel_rfl) (by kernel_rfl) (by kernel_rfl) (fun _ _ _ h => h) (Or.inl ⟨by rfl, ?hyb8⟩) hH2 ?rb8
        case hyb8 => (intro w' hSw; clear hSw; go_simp; try with_reducible rfl)
        simp only [Act.put, List.setIfInBounds_toArray, List.set_cons_zero, List.set_cons_succ]
        refine wpAnyH_done (by kernel_rfl) ?_ _
        refine NoPanic.normal ?_
        have hP10 := (hP5.own hm9 hk9).ref hm10 hk10
        have x1' : w10.cell? ⟨E, 1, none⟩ = some (.int .i64 x) := (((hX.keep hk9 hEo).keep hk10 hEl) 1 (by omega)).1
        go_wp2_with fail
        refine (is_any hP10 (T.ok.call1 x) (by omega) x).mono ?_
        rintro e wf ⟨rfl, hPf⟩
        go_wp2_with fail
        exact ⟨⟨j + 1, (s.call1 x |>.2).call2 x, by omega, by go_num, (Two.round hPf hc10 (T.ok.call1 x) (by rw [(Fl.call1_P s x).2]; exact T.B) (by rw [(Fl.call1_P s x).1]; exact T.P)).mono (by omega)⟩, by simp [intOf]; omega⟩
      by_cases o2 : op = 2
      · subst o2
        go_wp2_with (guard_target =~ wpList _ _ _ (Oper.mk _ (Op.store 38 _ _) _ _ _ _ :: _) _ _; refine wpList_store_run rfl 38 (.tmp 11) (.tmp 81) rfl (by rfl) (by rfl) hst ?_)
        refine (call2_any hP5.mem T.ok (by omega) x).mono ?_
        rintro e w6 ⟨a6, len6, cap6, rfl, hf6, hm6, hk6⟩
        have hP6 := hP5.own hm6 hk6
        have hX6 := hX.keep hk6 hEo
        have x1' : w6.cell? ⟨E, 1, none⟩ = some (.int .i64 x) := (hX6 1 (by omega)).1
        clear hst c0 c1 c2 c3 x0 x1 x2 x3
        go_wp2_with fail
        refine (rcall2_any hP6.rm T.ok (by omega) x).mono ?_
        rintro e w7 ⟨a7, len7, cap7, rfl, hf7, hm7, hk7⟩
        have hP7 := hP6.ref hm7 hk7
        have hX7 := hX6.keep hk7 hEl
        have hr6 := hf6.keep hk7 (fun b hb => hP5.lt b (Or.inr hb))
        have hs := same_any hr6 hf7.1
        have hg6 : len6 = 0 ∨ ∃ g, a6 = some ⟨g, 0, none⟩ ∧ w5.heap.size ≤ g ∧ Free w7 g cap6 := by
          rcases hf6.2 with h0 | ⟨g, e, hg, hfr⟩
          · exact Or.inl h0
          · exact Or.inr ⟨g, e, hg, hfr.keep hk7 (fun hS => by have := hP5.lt g (Or.inr hS); omega)⟩
        clear hf6 hf7 x1' hm6 hm7
        go_wp2_with fail
        refine hs.mono ?_
        rintro e w8 ⟨rfl, rfl⟩
        clear hs
        go_wp2_with fail
        have hc6 := hr6.2.1
        have hcm6 := hr6.2.2.1
        go_loopw [19] (fun i wz => ∃ m : Nat, m ≤ len6 ∧ i = .int .i64 m ∧ Pair w1 wz p c k l (s.call2 x) (s.call2 x) y0 ∧ Blk wz E 4 (four 2 x sh f) ∧ (len6 = 0 ∨ ∃ g, a6 = some ⟨g, 0, none⟩ ∧ w5.heap.size ≤ g ∧ Free wz g cap6)) (fun i _ => len6 - (intOf i).toNat)
        case atStart => exact ⟨0, by omega, rfl, hP7, hX7, hg6⟩
        case round =>
          obtain ⟨m, hm, rfl, hPz, hXz, hgz⟩ := hrel
          clear hP7 hX7 hg6
          by_cases hml : m < len6
          · rcases hgz with h0 | ⟨g, rfl, hg, hfr⟩
            · omega
            obtain ⟨v0, hv0⟩ := Option.isSome_iff_exists.1 (hfr m (by omega)).1
            have hfz := (hfr m (by omega)).2
            have hml' : (m : Int) < len6 := by omega
            have hgE : E ≠ g := by omega
            have hKz : Keep (fun b => b = g) wr (wr.setCell ⟨g, m, none⟩ (.int .u8 99)) := (Keep.refl (fun b => b = g) wr).setCell (p := ⟨g, m, none⟩) (Or.inl rfl) _
            have hPz2 := hPz.other (S := fun b => b = g) hKz (fun b hb => by
              subst hb
              refine ⟨?_, fun e => ?_, fun e => ?_⟩
              · have := hP5.keep.size; omega
              · have := hP5.lt _ (Or.inl e); omega
              · have := hP5.lt _ (Or.inr e); omega)
            go_wp2_with fail
            exact ⟨⟨m + 1, by omega, by go_num, hPz2, hXz.other (a := ⟨g, m, none⟩) hgE _, Or.inr ⟨g, rfl, hg, hfr.set _ _⟩⟩, by simp [intOf]; omega⟩
          · obtain rfl : m = len6 := by omega
            have x1' : wr.cell? ⟨E, 1, none⟩ = some (.int .i64 x) := (hXz 1 (by omega)).1
            go_wp2_with fail
            refine (is_any hPz (T.ok.call2 x) (by omega) x).mono ?_
            rintro e wf ⟨rfl, hPf⟩
            go_wp2_with fail
            exact ⟨⟨j + 1, (s.call2 x).call2 x, by omega, by go_num, (Two.round hPf (hcx.call2 x) (T.ok.call2 x) (by rw [(Fl.call2_P s x).2]; exact T.B) (by rw [(Fl.call2_P s x).1]; exact T.P)).mono (by omega)⟩, by simp [intOf]; omega⟩
      by_cases o3 : op = 3
      · subst o3
        go_wp2_with (guard_target =~ wpList _ _ _ (Oper.mk _ (Op.store 38 _ _) _ _ _ _ :: _) _ _; refine wpList_store_run rfl 38 (.tmp 11) (.tmp 81) rfl (by rfl) (by rfl) hst ?_)
        refine (cut_any hP5.mem x).mono ?_
        rintro e w6 ⟨rfl, hm6, hk6⟩
        obtain ⟨⟨y6, hP6⟩, hcut⟩ := (T.aside hk5).cut hxb hm6 hk6
        obtain ⟨hcut1, hcut2⟩ := hcut w6 ⟨y6, hP6⟩
        have x1' : w6.cell? ⟨E, 1, none⟩ = some (.int .i64 x) := ((hX.keep hk6 hEo) 1 (by omega)).1
        obtain ⟨t0, t1, t2, t3, t4, t5, t6, t7, t8⟩ := hP6.rm.tops
        have f6 := hP6.rm.free 6 (by omega)
        clear hst c0 c1 c2 c3 x0 x1 x2 x3 t0 t1 t2 t3 t4 t5 t7 t8
        by_cases hx0 : 0 ≤ x
        · have T7 := hcut2 hx0
          clear hcut hcut1 hcut2
          obtain ⟨y7, hP7, hc7⟩ := T7.pair
          go_wp2_with fail
          refine (is_any hP7 T7.ok (by omega) x).mono ?_
          rintro e wf ⟨rfl, hPf⟩
          go_wp2_with fail
          exact ⟨⟨j + 1, (s.setCut x).call2 x, by omega, by go_num, (Two.round hPf hc7 T7.ok T7.B T7.P).mono (by omega)⟩, by simp [intOf]; omega⟩
        · have T7 := hcut1 (by omega)
          clear hcut hcut1 hcut2
          obtain ⟨y7, hP7, hc7⟩ := T7.pair
          go_wp2_with fail
          refine (is_any hP7 T7.ok (by omega) x).mono ?_
          rintro e wf ⟨rfl, hPf⟩
          go_wp2_with fail
          exact ⟨⟨j + 1, (s.setCut x).call2 x, by omega, by go_num, (Two.round hPf hc7 T7.ok T7.B T7.P).mono (by omega)⟩, by simp [intOf]; omega⟩
      by_cases o4 : op = 4
      · subst o4
        go_wp2_with (guard_target =~ wpList _ _ _ (Oper.mk _ (Op.store 38 _ _) _ _ _ _ :: _) _ _; refine wpList_store_run rfl 38 (.tmp 11) (.tmp 81) rfl (by rfl) (by rfl) hst ?_)
        refine (fail_any hP5.mem x).mono ?_
        rintro e w6 ⟨rfl, hm6, hk6⟩
        obtain ⟨y6, hc6, hP6, hcut1, hcut2⟩ := (T.aside hk5).fail hxb hm6 hk6
        have x1' : w6.cell? ⟨E, 1, none⟩ = some (.int .i64 x) := ((hX.keep hk6 hEo) 1 (by omega)).1
        obtain ⟨t0, t1, t2, t3, t4, t5, t6, t7, t8⟩ := hP6.rm.tops
        have f7 := hP6.rm.free 7 (by omega)
        clear hst c0 c1 c2 c3 x0 x1 x2 x3 t0 t1 t2 t3 t4 t5 t6 t8
        by_cases hx0 : 0 ≤ x
        · have T7 := hcut2 hx0
          clear hcut1 hcut2
          obtain ⟨y7, hP7, hc7⟩ := T7.pair
          go_wp2_with fail
          refine (is_any hP7 T7.ok (by omega) x).mono ?_
          rintro e wf ⟨rfl, hPf⟩
          go_wp2_with fail
          exact ⟨⟨j + 1, (s.setFail x).call2 x, by omega, by go_num, (Two.round hPf hc7 T7.ok T7.B T7.P).mono (by omega)⟩, by simp [intOf]; omega⟩
        · have T7 := hcut1 (by omega)
          clear hcut1 hcut2
          obtain ⟨y7, hP7, hc7⟩ := T7.pair
          go_wp2_with fail
          refine (is_any hP7 T7.ok (by omega) x).mono ?_
          rintro e wf ⟨rfl, hPf⟩
          go_wp2_with fail
          exact ⟨⟨j + 1, (s.setFail x).call2 x, by omega, by go_num, (Two.round hPf hc7 T7.ok T7.B T7.P).mono (by omega)⟩, by simp [intOf]; omega⟩
      by_cases o5 : op = 5
      · subst o5
        go_wp2_with (guard_target =~ wpList _ _ _ (Oper.mk _ (Op.store 38 _ _) _ _ _ _ :: _) _ _; refine wpList_store_run rfl 38 (.tmp 11) (.tmp 81) rfl (by rfl) (by rfl) hst ?_)
        refine (on_any hP5.mem).mono ?_
        rintro e w6 ⟨rfl, hm6, hk6⟩
        obtain ⟨y6, hP6, T7⟩ := (T.aside hk5).on hm6 hk6
        have x1' : w6.cell? ⟨E, 1, none⟩ = some (.int .i64 x) := ((hX.keep hk6 hEo) 1 (by omega)).1
        obtain ⟨t0, t1, t2, t3, t4, t5, t6, t7, t8⟩ := hP6.rm.tops
        have f6 := hP6.rm.free 6 (by omega)
        have f8 := hP6.rm.free 8 (by omega)
        clear hst c0 c1 c2 c3 x0 x1 x2 x3 t0 t1 t2 t3 t4 t5 t7
        obtain ⟨y7, hP7, hc7⟩ := T7.pair
        go_wp2_with fail
        refine (is_any hP7 T7.ok (by omega) x).mono ?_
        rintro e wf ⟨rfl, hPf⟩
        go_wp2_with fail
        exact ⟨⟨j + 1, (s.turnOn).call2 x, by omega, by go_num, (Two.round hPf hc7 T7.ok T7.B T7.P).mono (by omega)⟩, by simp [intOf]; omega⟩
      · go_wp2_with (guard_target =~ wpList _ _ _ (Oper.mk _ (Op.store 38 _ _) _ _ _ _ :: _) _ _; refine wpList_store_run rfl 38 (.tmp 11) (.tmp 81) rfl (by rfl) (by rfl) hst ?_)
        clear hst c0 c1 c2 c3
        go_wp2_with fail
        refine (is_any hP5 T.ok (by omega) x).mono ?_
        rintro e wf ⟨rfl, hPf⟩
        go_wp2_with fail
        exact ⟨⟨j + 1, (s).call2 x, by omega, by go_num, (Two.round hPf hcx T.ok T.B T.P).mono (by omega)⟩, by simp [intOf]; omega⟩
    · obtain rfl : j = len := by omega
      have hKK : Keep (fun _ => False) w wr := k1.trans hPr.keep
      go_wp2_with fail
      go_ret
      exact ⟨rfl, hKK⟩
end Nd
end Go.Proofs.Ytjafjofonckaaaa
