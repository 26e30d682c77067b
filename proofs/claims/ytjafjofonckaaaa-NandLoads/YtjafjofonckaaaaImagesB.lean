/-
  The statement of images, walked where the call behind it is an Erase: it returns true, and whatever was in memory is as it was.
-/
import Derived.Test.YtjafjofonckaaaaHeld
namespace Go.Proofs.Ytjafjofonckaaaa
open Go.ChangeShapes Go.WideShapes Go.ChangeAt Go.RowKit
namespace Nd
set_option maxRecDepth 100000 in
set_option maxHeartbeats 64000000 in
theorem loads_B (w : World) {B P len cap : Nat} {a : Option Addr} {ix xr na nsh nf : Int} (b1 : 1 ≤ B) (b2 : B ≤ 8) (p1 : 1 ≤ P) (p2 : P ≤ 8) (h30 : len ≤ 30) (hlc : len ≤ cap) (hcm : cap ≤ 9223372036854775807)
    (hA : len = 0 ∨ ∃ b o, a = some ⟨b, o, none⟩ ∧ ∀ i, i < len → ∃ op x sh f, ActAt w b (o + i * 4) op x sh f) :
    Calls Try.prog 7 #[.int .i64 B, .int .i64 P, .slice a len cap, .int .i64 ix, .int .u8 xr, .agg #[.int .i64 1, .int .i64 na, .int .i64 nsh, .int .u8 nf]] w fun e w' => e = .returned (.bool true) ∧ Keep (fun _ => False) w w' := by
  have g1 : ¬ (B : Int) < 1 := by omega
  have g2 : ¬ (8 : Int) < B := by omega
  have g3 : ¬ (P : Int) < 1 := by omega
  have g4 : ¬ (8 : Int) < P := by omega
  have g5 : ¬ (30 : Int) < len := by omega
  have hX0 := blk_four w 1 na nsh nf 38
  have hKb : Keep (fun _ => False) w (w.alloc (.cells #[.int .i64 1, .int .i64 na, .int .i64 nsh, .int .u8 nf] 38)) := (Keep.refl _ _).alloc _
  go_enter Try.func7, Try.ntmps7
  go_wp2_with fail
  refine (awake_any _).mono ?_
  rintro e w1 ⟨rfl, k1⟩
  have hX1 := hX0.keep k1 (fun e => e)
  have hK0 := hKb.trans k1
  have hXl := hX1.lt (by omega)
  clear hX0 hKb k1
  obtain ⟨X, hXX⟩ : ∃ X, w.heap.size = X := ⟨_, rfl⟩
  rw [hXX] at hX1 hXl ⊢
  clear hXX
  go_wp2_with fail
  refine (new_any (B := B) (P := P) b1 (by omega) p1 (by omega)).mono ?_
  rintro e w2 ⟨p, c, k, rfl, m0, hp, hc, hk, K0⟩
  have F0 : Fs w1 p c k (Fl.new B P) w2 := ⟨m0, K0, hp, hc, hk⟩
  clear m0 K0
  go_wp2_with fail
  have hlen : (len : Int) ≤ 30 := by omega
  go_loopw [15] (fun i wr => ∃ (j : Nat) (s : Fl), j ≤ len ∧ i = .int .i64 j ∧ Fs w1 p c k s wr ∧ s.Ok j ∧ s.B = B ∧ s.P = P ∧ s.Right) (fun i _ => len - (intOf i).toNat)
  case atStart => exact ⟨0, Fl.new B P, by omega, rfl, F0, Fl.Ok.new b1 (by omega) p1 (by omega) 0, rfl, rfl, Fl.Right.new B P⟩
  case round =>
    obtain ⟨j, s, hj, rfl, F, ok, hB, hP, hright⟩ := hrel
    clear F0
    by_cases hlt : j < len
    · rcases hA with h0 | ⟨b, o, rfl, hall⟩
      · omega
      obtain ⟨op, x, sh, f, hact⟩ := hall j hlt
      have hact1 := hact.still hK0
      have hact2 := hact1.still F.keep
      have c0 := hact2.c0
      have c1 := hact2.c1
      have c2 := hact2.c2
      have c3 := hact2.c3
      have hxb := bounds_i64 hact.wa.2.1
      have hlt' : (j : Int) < len := by omega
      clear hall hact
      by_cases o0 : op = 0
      · subst o0
        go_wp2_with fail
        clear c0 c1 c2 c3
        refine wp_region_noPanic ?_
        refine wp_region_held_drew (S := fun w' => ActAt w' b (o + j * 4) 0 x sh f) (by kernel_rfl) (hact2.still ((Keep.refl _ _).drew)) (fun hH0 => ?_)
        refine' wpAnyH_take (i := 0) (oi := { dst := some 63, op := Op.move (Operand.tmp 13), type := 23, pos := "more.go:109", after := #[], guard := none }) (v := _) rfl (by kernel_rfl) (by kernel_rfl) (by kernel_rfl) (fun _ _ _ h => h) (Or.inl ⟨by rfl, ?hya0⟩) hH0 ?ra0
        case hya0 => (intro w' hSw; clear hSw; go_simp; try with_reducible rfl)
        simp only [Act.put, List.setIfInBounds_toArray, List.set_cons_zero, List.set_cons_succ]
        refine' wpAnyH_take (i := 1) (oi := { dst := some 64, op := Op.move (Operand.tmp 2), type := 34, pos := "more.go:109", after := #[], guard := none }) (v := _) rfl (by kernel_rfl) (by kernel_rfl) (by kernel_rfl) (fun _ _ _ h => h) (Or.inl ⟨by rfl, ?hya1⟩) hH0 ?ra1
        case hya1 => (intro w' hSw; clear hSw; go_simp; try with_reducible rfl)
        simp only [Act.put, List.setIfInBounds_toArray, List.set_cons_zero, List.set_cons_succ]
        refine' wpAnyH_take (i := 2) (oi := { dst := some 65, op := Op.move (Operand.tmp 15), type := 3, pos := "more.go:109", after := #[], guard := none }) (v := _) rfl (by kernel_rfl) (by kernel_rfl) (by kernel_rfl) (fun _ _ _ h => h) (Or.inl ⟨by rfl, ?hya2⟩) hH0 ?ra2
        case hya2 => (intro w' hSw; clear hSw; go_simp; try with_reducible rfl)
        simp only [Act.put, List.setIfInBounds_toArray, List.set_cons_zero, List.set_cons_succ]
        refine' wpAnyH_take (i := 3) (oi := { dst := some 66, op := Op.indexAddr 34 (Operand.tmp 64) (Operand.tmp 65), type := 0, pos := "more.go:109", after := #[{ on := 1, ground := Ground.data }, { on := 2, ground := Ground.data }], guard := none }) (v := _) rfl (by kernel_rfl) (by kernel_rfl) (by kernel_rfl) (fun _ _ _ h => h) (Or.inl ⟨by rfl, ?hya3⟩) hH0 ?ra3
        case hya3 => (intro w' hSw; clear hSw; go_simp; try with_reducible rfl)
        simp only [Act.put, List.setIfInBounds_toArray, List.set_cons_zero, List.set_cons_succ]
        refine' wpAnyH_take (i := 4) (oi := { dst := some 67, op := Op.fieldAddr 38 (Operand.tmp 66) 1, type := 0, pos := "more.go:109", after := #[{ on := 3, ground := Ground.data }], guard := none }) (v := _) rfl (by kernel_rfl) (by kernel_rfl) (by kernel_rfl) (fun _ _ _ h => h) (Or.inl ⟨by rfl, ?hya4⟩) hH0 ?ra4
        case hya4 => (intro w' hSw; clear hSw; go_simp; try with_reducible rfl)
        simp only [Act.put, List.setIfInBounds_toArray, List.set_cons_zero, List.set_cons_succ]
        refine' wpAnyH_take (i := 5) (oi := { dst := some 68, op := Op.load 3 (Operand.tmp 67), type := 3, pos := "more.go:109", after := #[{ on := 4, ground := Ground.data }], guard := none }) (v := _) rfl (by kernel_rfl) (by kernel_rfl) (by kernel_rfl) (fun _ _ _ h => h) (Or.inl ⟨by rfl, ?hya5⟩) hH0 ?ra5
        case hya5 => (intro w' hSw; have x0 := hSw.c0; have x1 := hSw.c1; have x2 := hSw.c2; have x3 := hSw.c3; clear hSw; go_simp; try with_reducible rfl)
        simp only [Act.put, List.setIfInBounds_toArray, List.set_cons_zero, List.set_cons_succ]
        refine' wpAnyH_take (i := 6) (oi := { dst := some 69, op := Op.move (Operand.tmp 2), type := 34, pos := "more.go:109", after := #[], guard := none }) (v := _) rfl (by kernel_rfl) (by kernel_rfl) (by kernel_rfl) (fun _ _ _ h => h) (Or.inl ⟨by rfl, ?hya6⟩) hH0 ?ra6
        case hya6 => (intro w' hSw; clear hSw; go_simp; try with_reducible rfl)
        simp only [Act.put, List.setIfInBounds_toArray, List.set_cons_zero, List.set_cons_succ]
        refine' wpAnyH_take (i := 7) (oi := { dst := some 70, op := Op.move (Operand.tmp 15), type := 3, pos := "more.go:109", after := #[], guard := none }) (v := _) rfl (by kernel_rfl) (by kernel_rfl) (by kernel_rfl) (fun _ _ _ h => h) (Or.inl ⟨by rfl, ?hya7⟩) hH0 ?ra7
        case hya7 => (intro w' hSw; clear hSw; go_simp; try with_reducible rfl)
        simp only [Act.put, List.setIfInBounds_toArray, List.set_cons_zero, List.set_cons_succ]
        refine' wpAnyH_take (i := 8) (oi := { dst := some 71, op := Op.indexAddr 34 (Operand.tmp 69) (Operand.tmp 70), type := 0, pos := "more.go:109", after := #[{ on := 6, ground := Ground.data }, { on := 7, ground := Ground.data }], guard := none }) (v := _) rfl (by kernel_rfl) (by kernel_rfl) (by kernel_rfl) (fun _ _ _ h => h) (Or.inl ⟨by rfl, ?hya8⟩) hH0 ?ra8
        case hya8 => (intro w' hSw; clear hSw; go_simp; try with_reducible rfl)
        simp only [Act.put, List.setIfInBounds_toArray, List.set_cons_zero, List.set_cons_succ]
        refine' wpAnyH_take (i := 9) (oi := { dst := some 72, op := Op.load 38 (Operand.tmp 71), type := 38, pos := "more.go:109", after := #[{ on := 8, ground := Ground.data }], guard := none }) (v := _) rfl (by kernel_rfl) (by kernel_rfl) (by kernel_rfl) (fun _ _ _ h => h) (Or.inl ⟨by rfl, ?hya9⟩) hH0 ?ra9
        case hya9 => (intro w' hSw; have x0 := hSw.c0; have x1 := hSw.c1; have x2 := hSw.c2; have x3 := hSw.c3; clear hSw; go_simp; try with_reducible rfl)
        simp only [Act.put, List.setIfInBounds_toArray, List.set_cons_zero, List.set_cons_succ]
        refine wpAnyH_ready (rs := [10]) (by kernel_rfl) (by simp) ?_
        refine AllReadyH.cons (o := { dst := some 73, op := Op.call { callee := Callee.value (Operand.func 17), args := #[Operand.tmp 72], argTypes := #[38] }, type := 28, pos := "more.go:109", after := #[{ on := 9, ground := Ground.data }], guard := none }) rfl (fun K hK => ?_) AllReadyH.nil
        refine step_call_want (vs := #[.agg #[.int .i64 0, .int .i64 x, .int .i64 sh, .int .u8 f]]) (R := DataR wr sh f) (by rfl) 17 #[Operand.tmp 72] #[38] rfl (by simp [Act.eval]) call17 (data_post ((Keep.refl _ wr).drew) 0 x sh f) ?_
        rintro u w6 ⟨D, rfl, hD, hBD, hk6⟩
        refine hK.out _ _ (hact2.still hk6) (fun hH1 => ?_)
        clear hK K hH0
        simp only [Act.put, List.setIfInBounds_toArray, List.set_cons_zero, List.set_cons_succ]
        refine wpAnyH_ready (rs := [11]) (by kernel_rfl) (by simp) ?_
        refine AllReadyH.cons (o := { dst := some 74, op := Op.call { callee := Callee.value (Operand.func 10), args := #[Operand.tmp 63, Operand.tmp 68, Operand.tmp 73], argTypes := #[23, 3, 28] }, type := 24, pos := "more.go:109", after := #[{ on := 0, ground := Ground.data }, { on := 5, ground := Ground.data }, { on := 10, ground := Ground.data }, { on := 10, ground := Ground.chain }], guard := none }) rfl (fun K hK => ?_) AllReadyH.nil
        refine step_call_want (vs := #[.pointer (some ⟨p, 0, none⟩), .int .i64 x, .slice (some ⟨D, 0, none⟩) (howMany sh) (howMany sh)]) (R := ProgR p c k s x sh f w6) (by rfl) 10 #[Operand.tmp 63, Operand.tmp 68, Operand.tmp 73] #[23, 3, 28] rfl (by simp [Act.eval]) call10 (prog_post (F.aside hk6).mem ok (by omega) x sh f hBD (fun e => by have := mem_lt F.mem ok D e; omega)) ?_
        rintro u w7 ⟨rfl, hm7, hk7⟩
        refine hK.out _ _ (hact1.still ((F.aside hk6).own hm7 hk7).keep) (fun hH2 => ?_)
        clear hK K hH1
        simp only [Act.put, List.setIfInBounds_toArray, List.set_cons_zero, List.set_cons_succ]
        refine wpAnyH_done (by kernel_rfl) ?_ _
        refine NoPanic.normal ?_
        have F7 := (F.aside hk6).own hm7 hk7
        go_wp2_with fail
        exact ⟨⟨j + 1, (s.call0 x (howMany sh) (rise f)).2, by omega, by go_num, F7, ok.call0 x (howMany sh) (rise_byte f), by rw [(Fl.call0_P s x (howMany sh) (rise f)).2]; exact hB, by rw [(Fl.call0_P s x (howMany sh) (rise f)).1]; exact hP, hright.call0 x (howMany sh) (rise f) ok⟩, by simp [intOf]; omega⟩
      by_cases o1 : op = 1
      · subst o1
        go_wp2_with fail
        refine (call1_any F.mem ok (by omega) x).mono ?_
        rintro e w7 ⟨rfl, hm7, hk7⟩
        have F7 := F.own hm7 hk7
        clear c0 c1 c2 c3
        go_wp2_with fail
        exact ⟨⟨j + 1, (s.call1 x).2, by omega, by go_num, F7, ok.call1 x, by rw [(Fl.call1_P s x).2]; exact hB, by rw [(Fl.call1_P s x).1]; exact hP, hright.call1 x⟩, by simp [intOf]; omega⟩
      by_cases o3 : op = 3
      · subst o3
        go_wp2_with fail
        refine (cut_any F.mem x).mono ?_
        rintro e w7 ⟨rfl, hm7, hk7⟩
        have F7 := F.own hm7 hk7
        clear c0 c1 c2 c3
        go_wp2_with fail
        exact ⟨⟨j + 1, s.setCut x, by omega, by go_num, F7, (ok.setCut hxb.2).mono (by omega), hB, hP, hright.setCut x⟩, by simp [intOf]; omega⟩
      by_cases o4 : op = 4
      · subst o4
        go_wp2_with fail
        refine (fail_any F.mem x).mono ?_
        rintro e w7 ⟨rfl, hm7, hk7⟩
        have F7 := F.own hm7 hk7
        clear c0 c1 c2 c3
        go_wp2_with fail
        exact ⟨⟨j + 1, s.setFail x, by omega, by go_num, F7, (ok.setFail hxb.2).mono (by omega), hB, hP, hright.setFail x⟩, by simp [intOf]; omega⟩
      by_cases o5 : op = 5
      · subst o5
        go_wp2_with fail
        refine (on_any F.mem).mono ?_
        rintro e w7 ⟨rfl, hm7, hk7⟩
        have F7 := F.own hm7 hk7
        clear c0 c1 c2 c3
        go_wp2_with fail
        exact ⟨⟨j + 1, s.turnOn, by omega, by go_num, F7, ok.turnOn.mono (by omega), hB, hP, hright.turnOn⟩, by simp [intOf]; omega⟩
      · go_wp2_with fail
        exact ⟨⟨j + 1, s, by omega, by go_num, F, ok.mono (by omega), hB, hP, hright⟩, by simp [intOf]; omega⟩
    · obtain rfl : j = len := by omega
      go_wp2_with fail
      refine (on_any F.mem).mono ?_
      rintro e w2 ⟨rfl, hm2, hk2⟩
      have F2 := F.own hm2 hk2
      go_wp2_with fail
      refine (fail_any F2.mem (-1)).mono ?_
      rintro e w3 ⟨rfl, hm3, hk3⟩
      have F3 := F2.own hm3 hk3
      have ok3 : (s.turnOn.setFail (-1)).Ok j := ok.turnOn.setFail (by omega)
      have hB3 : (s.turnOn.setFail (-1)).B = B := hB
      have hP3 : (s.turnOn.setFail (-1)).P = P := hP
      have hr3 : (s.turnOn.setFail (-1)).Right := (hright.turnOn).setFail (-1)
      have hon3 : (s.turnOn.setFail (-1)).on = true := rfl
      have hcut3 : (s.turnOn.setFail (-1)).cut = -1 := rfl
      have hfail3 : (s.turnOn.setFail (-1)).fail = -1 := rfl
      clear F F2 hm2 hk2 hm3 hk3 ok hB hP hright hA
      generalize s.turnOn.setFail (-1) = s1 at *
      clear s
      rename Fl => s
      have ok := ok3
      have hB := hB3
      have hP := hP3
      have hon := hon3
      go_wp2_with fail
      refine (image_any F3.mem ok).mono ?_
      rintro e w4 ⟨g, capg, rfl, hg3, hrow4, hfree4, hm4, hk34⟩
      have hg1 : w1.heap.size ≤ g := by have := F3.keep.size; omega
      have hgo : ¬ Own p c k g := fun e => by have := mem_lt F3.mem ok g e; omega
      have hrow4' : Row w4 (some ⟨g, 0, none⟩) (B * P * 68 + 2 * B) capg (tab (B * P * 68 + 2 * B) s.image) := by
        rw [← hB, ← hP]; exact hrow4
      have hload := load_any b1 b2 p1 p2 (image_byte ok) hrow4' hfree4
      have hsz : B * P * 68 + 2 * B = s.size := by rw [← hB, ← hP]; rfl
      rw [hsz] at hload
      have hgl : g < w4.heap.size := by
        have := (hrow4.cellAt (i := 0) (by unfold Fl.size; have := ok.b1; omega))
        exact World.block_lt_of_cell? w4 _ this
      clear hrow4' hsz
      go_wp2_with fail
      refine hload.mono ?_
      rintro e w5 hl
      clear hload
      have hl2 := hl.resolve_right (fun h => h.2.1 (fun b hb => by have := hr3.good ok (b := b) (by rw [hB]; exact hb); rw [hB, hP] at this; exact this))
      obtain ⟨p2x, c2, k2, rfl, _, hm5, hp2, hc2, hk2, hk45⟩ := hl2
      rw [← hB, ← hP] at hm5
      have hm5' := load_same hon hcut3 hfail3 hm5
      have F4 := F3.aside hk34
      have T5 : Twin w1 w5 p c k s p2x c2 k2 s.fresh := by
        refine ⟨F4.mem.keep hk45 (fun e => e) (fun e => e) (fun e => e), hm5', F4.keep.trans hk45, fun b hb => ?_, fun b e1 e2 => ?_, fun b hb => ?_⟩
        · rcases hb with (rfl | rfl | rfl) | (rfl | rfl | rfl)
          · exact F4.p
          · exact F4.c
          · exact F4.k
          · exact Nat.le_trans F4.keep.size hp2
          · exact Nat.le_trans F4.keep.size hc2
          · exact Nat.le_trans F4.keep.size hk2
        · have := mem_lt F4.mem ok b e1
          rcases e2 with rfl | rfl | rfl <;> omega
        · rcases hb with hb | hb
          · exact Nat.lt_of_lt_of_le (mem_lt F4.mem ok b hb) hk45.size
          · exact mem_lt hm5' ok.fresh b hb
      have hgo2 : ¬ Own p2x c2 k2 g := fun e => by rcases e with rfl | rfl | rfl <;> omega
      have himg := fun w' (h : Keep (fun _ => False) w5 w') => (hrow4.keep (hk45.trans h) (fun _ _ _ e => e)).text
      have okf := ok.fresh
      clear hm5 hm5' F3 F4 hk34 hm4 ok3 hB3 hP3 hon3 hcut3 hfail3 hr3 hp2 hc2 hk2
      go_wp2_with fail
      refine wp_region_noPanic ?_
      refine wp_region_held_drew (S := fun w' => Keep (fun _ => False) w5 w') (by kernel_rfl) ((Keep.refl _ _).drew) (fun hH0 => ?_)
      refine' wpAnyH_take (i := 0) (oi := { dst := some 119, op := Op.move (Operand.tmp 14), type := 24, pos := "more.go:124", after := #[], guard := none }) (v := _) rfl (by kernel_rfl) (by kernel_rfl) (by kernel_rfl) (fun _ _ _ h => h) (Or.inl ⟨by rfl, ?hyb0⟩) hH0 ?rb0
      case hyb0 => (intro w' hSw; clear hSw; go_simp; try with_reducible rfl)
      simp only [Act.put, List.setIfInBounds_toArray, List.set_cons_zero, List.set_cons_succ]
      refine' wpAnyH_take (i := 1) (oi := { dst := some 120, op := Op.binOp BinOp.neq 24 (Operand.tmp 119) (Operand.const (Value.int IntKind.i64 0)) 24, type := 4, pos := "more.go:124", after := #[{ on := 0, ground := Ground.data }], guard := none }) (v := _) rfl (by kernel_rfl) (by kernel_rfl) (by kernel_rfl) (fun _ _ _ h => h) (Or.inl ⟨by rfl, ?hyb1⟩) hH0 ?rb1
      case hyb1 => (intro w' hSw; clear hSw; go_simp; try with_reducible rfl)
      simp only [Act.put, List.setIfInBounds_toArray, List.set_cons_zero, List.set_cons_succ]
      refine' wpAnyH_take (i := 2) (oi := { dst := some 121, op := Op.move (Operand.tmp 120), type := 4, pos := "more.go:124", after := #[{ on := 1, ground := Ground.data }], guard := none }) (v := _) rfl (by kernel_rfl) (by kernel_rfl) (by kernel_rfl) (fun _ _ _ h => h) (Or.inl ⟨by rfl, ?hyb2⟩) hH0 ?rb2
      case hyb2 => (intro w' hSw; clear hSw; go_simp; try with_reducible rfl)
      simp only [Act.put, List.setIfInBounds_toArray, List.set_cons_zero, List.set_cons_succ]
      refine' wpAnyH_take (i := 3) (oi := { dst := some 122, op := Op.move (Operand.tmp 17), type := 23, pos := "more.go:124", after := #[{ on := 2, ground := Ground.guard }], guard := some (2, false) }) (v := _) rfl (by kernel_rfl) (by kernel_rfl) (by kernel_rfl) (fun _ _ _ h => h) (Or.inl ⟨by rfl, ?hyb3⟩) hH0 ?rb3
      case hyb3 => (intro w' hSw; clear hSw; go_simp; try with_reducible rfl)
      simp only [Act.put, List.setIfInBounds_toArray, List.set_cons_zero, List.set_cons_succ]
      refine' wpAnyH_take (i := 4) (oi := { dst := some 123, op := Op.binOp BinOp.eql 23 (Operand.tmp 122) (Operand.const (Value.pointer none)) 23, type := 4, pos := "more.go:124", after := #[{ on := 3, ground := Ground.data }, { on := 2, ground := Ground.guard }], guard := some (2, false) }) (v := _) rfl (by kernel_rfl) (by kernel_rfl) (by kernel_rfl) (fun _ _ _ h => h) (Or.inl ⟨by rfl, ?hyb4⟩) hH0 ?rb4
      case hyb4 => (intro w' hSw; clear hSw; go_simp; try with_reducible rfl)
      simp only [Act.put, List.setIfInBounds_toArray, List.set_cons_zero, List.set_cons_succ]
      refine' wpAnyH_take (i := 5) (oi := { dst := some 124, op := Op.pick (Operand.tmp 121) (Operand.const (Value.bool true)) (Operand.tmp 123), type := 4, pos := "more.go:124", after := #[{ on := 2, ground := Ground.data }, { on := 4, ground := Ground.data }], guard := none }) (v := _) rfl (by kernel_rfl) (by kernel_rfl) (by kernel_rfl) (fun _ _ _ h => h) (Or.inl ⟨by rfl, ?hyb5⟩) hH0 ?rb5
      case hyb5 => (intro w' hSw; clear hSw; go_simp; try with_reducible rfl)
      simp only [Act.put, List.setIfInBounds_toArray, List.set_cons_zero, List.set_cons_succ]
      refine' wpAnyH_take (i := 6) (oi := { dst := some 125, op := Op.move (Operand.tmp 124), type := 4, pos := "more.go:124", after := #[{ on := 5, ground := Ground.data }, { on := 2, ground := Ground.chain }], guard := none }) (v := _) rfl (by kernel_rfl) (by kernel_rfl) (by kernel_rfl) (fun _ _ _ h => h) (Or.inl ⟨by rfl, ?hyb6⟩) hH0 ?rb6
      case hyb6 => (intro w' hSw; clear hSw; go_simp; try with_reducible rfl)
      simp only [Act.put, List.setIfInBounds_toArray, List.set_cons_zero, List.set_cons_succ]
      refine' wpAnyH_take (i := 7) (oi := { dst := some 126, op := Op.move (Operand.tmp 17), type := 23, pos := "more.go:124", after := #[{ on := 6, ground := Ground.guard }], guard := some (6, false) }) (v := _) rfl (by kernel_rfl) (by kernel_rfl) (by kernel_rfl) (fun _ _ _ h => h) (Or.inl ⟨by rfl, ?hyb7⟩) hH0 ?rb7
      case hyb7 => (intro w' hSw; clear hSw; go_simp; try with_reducible rfl)
      simp only [Act.put, List.setIfInBounds_toArray, List.set_cons_zero, List.set_cons_succ]
      refine' wpAnyH_take (i := 10) (oi := { dst := some 129, op := Op.move (Operand.tmp 16), type := 28, pos := "more.go:124", after := #[{ on := 6, ground := Ground.guard }], guard := some (6, false) }) (v := _) rfl (by kernel_rfl) (by kernel_rfl) (by kernel_rfl) (fun _ _ _ h => h) (Or.inl ⟨by rfl, ?hyb10⟩) hH0 ?rb10
      case hyb10 => (intro w' hSw; clear hSw; go_simp; try with_reducible rfl)
      simp only [Act.put, List.setIfInBounds_toArray, List.set_cons_zero, List.set_cons_succ]
      refine' wpAnyH_take (i := 11) (oi := { dst := some 130, op := Op.convert 28 9 (Operand.tmp 129), type := 9, pos := "more.go:124", after := #[{ on := 10, ground := Ground.data }, { on := 6, ground := Ground.guard }], guard := some (6, false) }) (v := .string (strOfNums (tab s.size s.image))) rfl (by kernel_rfl) (by kernel_rfl) (by kernel_rfl) (fun _ _ _ h => h) (yields_conv (by rfl) 28 9 (.tmp 129) rfl (by rfl) (fun w' h => himg w' h)) hH0 ?rb11
      simp only [Act.put, List.setIfInBounds_toArray, List.set_cons_zero, List.set_cons_succ]
      refine wpAnyH_ready (rs := [8]) (by kernel_rfl) (by simp) ?_
      refine AllReadyH.cons (o := { dst := some 127, op := Op.call { callee := Callee.value (Operand.func 27), args := #[Operand.tmp 126], argTypes := #[23] }, type := 28, pos := "more.go:124", after := #[{ on := 7, ground := Ground.data }, { on := 6, ground := Ground.chain }, { on := 6, ground := Ground.guard }], guard := some (6, false) }) rfl (fun K hK => ?_) AllReadyH.nil
      refine step_call_want (vs := #[.pointer (some ⟨p2x, 0, none⟩)]) (R := fun u w2 => ∃ g cap, u = Value.slice (some ⟨g, 0, none⟩) s.size cap ∧ Row w2 (some ⟨g, 0, none⟩) s.size cap (tab s.size s.image) ∧ Keep (fun _ => False) w5 w2) (by rfl) 27 #[Operand.tmp 126] #[23] rfl (by simp [Act.eval]) call27 ((image_any T5.two.drew okf).mono (by rintro e w4 ⟨g, cap, rfl, _, hr, _, _, hk⟩; exact ⟨_, rfl, g, cap, rfl, hr, ((Keep.refl _ w5).drew).trans hk⟩)) ?_
      rintro u w6 ⟨g6, cap6, rfl, hr6, hk6⟩
      refine hK.out _ _ (hk6) (fun hH1 => ?_)
      clear hK K hH0
      simp only [Act.put, List.setIfInBounds_toArray, List.set_cons_zero, List.set_cons_succ]
      have ht6 := hr6.text
      refine wpAnyH_ready (rs := [9]) (by kernel_rfl) (by simp) ?_
      refine AllReadyH.cons (o := { dst := some 128, op := Op.convert 28 9 (Operand.tmp 127), type := 9, pos := "more.go:124", after := #[{ on := 8, ground := Ground.data }, { on := 6, ground := Ground.guard }], guard := some (6, false) }) rfl (fun K hK => ?_) AllReadyH.nil
      refine step_conv_run (by rfl) 28 9 (.tmp 127) rfl (by rfl) ht6 ?_
      refine hK.out _ _ (hk6) (fun hH2 => ?_)
      clear hK K hH1
      simp only [Act.put, List.setIfInBounds_toArray, List.set_cons_zero, List.set_cons_succ]
      refine' wpAnyH_take (i := 12) (oi := { dst := some 131, op := Op.binOp BinOp.neq 9 (Operand.tmp 128) (Operand.tmp 130) 9, type := 4, pos := "more.go:124", after := #[{ on := 9, ground := Ground.data }, { on := 11, ground := Ground.data }, { on := 6, ground := Ground.guard }], guard := some (6, false) }) (v := _) rfl (by kernel_rfl) (by kernel_rfl) (by kernel_rfl) (fun _ _ _ h => h) (Or.inl ⟨by rfl, ?hyb12⟩) hH2 ?rb12
      case hyb12 => (intro w' hSw; clear hSw; go_simp; try with_reducible rfl)
      simp only [Act.put, List.setIfInBounds_toArray, List.set_cons_zero, List.set_cons_succ]
      refine' wpAnyH_take (i := 13) (oi := { dst := some 132, op := Op.pick (Operand.tmp 125) (Operand.const (Value.bool true)) (Operand.tmp 131), type := 4, pos := "more.go:124", after := #[{ on := 6, ground := Ground.data }, { on := 12, ground := Ground.data }], guard := none }) (v := _) rfl (by kernel_rfl) (by kernel_rfl) (by kernel_rfl) (fun _ _ _ h => h) (Or.inl ⟨by rfl, ?hyb13⟩) hH2 ?rb13
      case hyb13 => (intro w' hSw; clear hSw; go_simp; try with_reducible rfl)
      simp only [Act.put, List.setIfInBounds_toArray, List.set_cons_zero, List.set_cons_succ]
      refine' wpAnyH_take (i := 14) (oi := { dst := some 133, op := Op.move (Operand.tmp 132), type := 4, pos := "more.go:124", after := #[{ on := 13, ground := Ground.data }, { on := 8, ground := Ground.chain }], guard := none }) (v := _) rfl (by kernel_rfl) (by kernel_rfl) (by kernel_rfl) (fun _ _ _ h => h) (Or.inl ⟨by rfl, ?hyb14⟩) hH2 ?rb14
      case hyb14 => (intro w' hSw; clear hSw; go_simp; try with_reducible rfl)
      simp only [Act.put, List.setIfInBounds_toArray, List.set_cons_zero, List.set_cons_succ]
      refine' wpAnyH_take (i := 15) (oi := { dst := some 134, op := Op.move (Operand.tmp 17), type := 23, pos := "more.go:124", after := #[{ on := 14, ground := Ground.guard }], guard := some (14, false) }) (v := _) rfl (by kernel_rfl) (by kernel_rfl) (by kernel_rfl) (fun _ _ _ h => h) (Or.inl ⟨by rfl, ?hyb15⟩) hH2 ?rb15
      case hyb15 => (intro w' hSw; clear hSw; go_simp; try with_reducible rfl)
      simp only [Act.put, List.setIfInBounds_toArray, List.set_cons_zero, List.set_cons_succ]
      refine wpAnyH_ready (rs := [16]) (by kernel_rfl) (by simp) ?_
      refine AllReadyH.cons (o := { dst := some 135, op := Op.call { callee := Callee.value (Operand.func 29), args := #[Operand.tmp 134], argTypes := #[23] }, type := 4, pos := "more.go:124", after := #[{ on := 15, ground := Ground.data }, { on := 14, ground := Ground.chain }, { on := 14, ground := Ground.guard }], guard := some (14, false) }) rfl (fun K hK => ?_) AllReadyH.nil
      refine step_call_want (vs := #[.pointer (some ⟨p2x, 0, none⟩)]) (R := fun u w2 => u = .bool true ∧ w2 = w6) (by rfl) 29 #[Operand.tmp 134] #[23] rfl (by simp [Act.eval]) call29 ((power_any (T5.aside hk6).two).mono (by rintro e w7 ⟨rfl, rfl⟩; exact ⟨_, rfl, by rw [show s.fresh.on = true from hon], rfl⟩)) ?_
      rintro u w7 ⟨rfl, rfl⟩
      refine hK.out _ _ (hk6) (fun hH3 => ?_)
      clear hK K hH2
      simp only [Act.put, List.setIfInBounds_toArray, List.set_cons_zero, List.set_cons_succ]
      refine' wpAnyH_take (i := 17) (oi := { dst := some 136, op := Op.unOp UnOp.not 4 (Operand.tmp 135), type := 4, pos := "more.go:124", after := #[{ on := 16, ground := Ground.data }, { on := 14, ground := Ground.guard }], guard := some (14, false) }) (v := _) rfl (by kernel_rfl) (by kernel_rfl) (by kernel_rfl) (fun _ _ _ h => h) (Or.inl ⟨by rfl, ?hyb17⟩) hH3 ?rb17
      case hyb17 => (intro w' hSw; clear hSw; go_simp; try with_reducible rfl)
      simp only [Act.put, List.setIfInBounds_toArray, List.set_cons_zero, List.set_cons_succ]
      refine' wpAnyH_take (i := 18) (oi := { dst := some 137, op := Op.pick (Operand.tmp 133) (Operand.const (Value.bool true)) (Operand.tmp 136), type := 4, pos := "more.go:124", after := #[{ on := 14, ground := Ground.data }, { on := 17, ground := Ground.data }], guard := none }) (v := _) rfl (by kernel_rfl) (by kernel_rfl) (by kernel_rfl) (fun _ _ _ h => h) (Or.inl ⟨by rfl, ?hyb18⟩) hH3 ?rb18
      case hyb18 => (intro w' hSw; clear hSw; go_simp; try with_reducible rfl)
      simp only [Act.put, List.setIfInBounds_toArray, List.set_cons_zero, List.set_cons_succ]
      refine' wpAnyH_take (i := 19) (oi := { dst := some 138, op := Op.move (Operand.tmp 137), type := 4, pos := "more.go:124", after := #[{ on := 18, ground := Ground.data }, { on := 16, ground := Ground.chain }], guard := none }) (v := _) rfl (by kernel_rfl) (by kernel_rfl) (by kernel_rfl) (fun _ _ _ h => h) (Or.inl ⟨by rfl, ?hyb19⟩) hH3 ?rb19
      case hyb19 => (intro w' hSw; clear hSw; go_simp; try with_reducible rfl)
      simp only [Act.put, List.setIfInBounds_toArray, List.set_cons_zero, List.set_cons_succ]
      refine' wpAnyH_take (i := 20) (oi := { dst := some 139, op := Op.move (Operand.tmp 17), type := 23, pos := "more.go:124", after := #[{ on := 19, ground := Ground.guard }], guard := some (19, false) }) (v := _) rfl (by kernel_rfl) (by kernel_rfl) (by kernel_rfl) (fun _ _ _ h => h) (Or.inl ⟨by rfl, ?hyb20⟩) hH3 ?rb20
      case hyb20 => (intro w' hSw; clear hSw; go_simp; try with_reducible rfl)
      simp only [Act.put, List.setIfInBounds_toArray, List.set_cons_zero, List.set_cons_succ]
      refine' wpAnyH_take (i := 22) (oi := { dst := some 141, op := Op.build 55 #[], type := 55, pos := "more.go:124", after := #[{ on := 19, ground := Ground.guard }], guard := some (19, false) }) (v := _) rfl (by kernel_rfl) (by kernel_rfl) (by kernel_rfl) (fun _ _ _ h => h) (Or.inl ⟨by rfl, ?hyb22⟩) hH3 ?rb22
      case hyb22 => (intro w' hSw; clear hSw; go_simp; try with_reducible rfl)
      simp only [Act.put, List.setIfInBounds_toArray, List.set_cons_zero, List.set_cons_succ]
      refine wpAnyH_ready (rs := [21]) (by kernel_rfl) (by simp) ?_
      refine AllReadyH.cons (o := { dst := some 140, op := Op.call { callee := Callee.value (Operand.func 26), args := #[Operand.tmp 139], argTypes := #[23] }, type := 55, pos := "more.go:124", after := #[{ on := 20, ground := Ground.data }, { on := 19, ground := Ground.chain }, { on := 19, ground := Ground.guard }], guard := some (19, false) }) rfl (fun K hK => ?_) AllReadyH.nil
      refine step_call_want (vs := #[.pointer (some ⟨p2x, 0, none⟩)]) (R := fun u w2 => u = .agg #[.int .i64 0, .int .i64 0, .int .i64 0] ∧ Keep (fun _ => False) w5 w2) (by rfl) 26 #[Operand.tmp 139] #[23] rfl (by simp [Act.eval]) call26 ((stat_any (T5.aside hk6).two).mono (by rintro e w8 ⟨rfl, _, hk⟩; exact ⟨_, rfl, rfl, hk6.trans hk⟩)) ?_
      rintro u w8 ⟨rfl, hk8⟩
      refine hK.out _ _ (hk8) (fun hH4 => ?_)
      clear hK K hH3
      simp only [Act.put, List.setIfInBounds_toArray, List.set_cons_zero, List.set_cons_succ]
      refine' wpAnyH_take (i := 23) (oi := { dst := some 142, op := Op.binOp BinOp.neq 55 (Operand.tmp 140) (Operand.tmp 141) 55, type := 4, pos := "more.go:124", after := #[{ on := 21, ground := Ground.data }, { on := 22, ground := Ground.data }, { on := 19, ground := Ground.guard }], guard := some (19, false) }) (v := _) rfl (by kernel_rfl) (by kernel_rfl) (by kernel_rfl) (fun _ _ _ h => h) (Or.inl ⟨by rfl, ?hyb23⟩) hH4 ?rb23
      case hyb23 => (intro w' hSw; clear hSw; go_simp; try with_reducible rfl)
      simp only [Act.put, List.setIfInBounds_toArray, List.set_cons_zero, List.set_cons_succ]
      refine' wpAnyH_take (i := 24) (oi := { dst := some 143, op := Op.pick (Operand.tmp 138) (Operand.const (Value.bool true)) (Operand.tmp 142), type := 4, pos := "more.go:124", after := #[{ on := 19, ground := Ground.data }, { on := 23, ground := Ground.data }], guard := none }) (v := _) rfl (by kernel_rfl) (by kernel_rfl) (by kernel_rfl) (fun _ _ _ h => h) (Or.inl ⟨by rfl, ?hyb24⟩) hH4 ?rb24
      case hyb24 => (intro w' hSw; clear hSw; go_simp; try with_reducible rfl)
      simp only [Act.put, List.setIfInBounds_toArray, List.set_cons_zero, List.set_cons_succ]
      refine wpAnyH_done (by kernel_rfl) ?_ _
      refine NoPanic.normal ?_
      clear okf
      have okf := ok.fresh
      have T8 := T5.aside hk8
      have hk58 := hk8
      have hX8 : Blk w8 X 4 (four 1 na nsh nf) := hX1.keep T8.keep (fun e => e)
      have hXo : ¬ Own p c k X := fun e => by have := T8.new X (Or.inl e); omega
      have hXo2 : ¬ Own p2x c2 k2 X := fun e => by have := T8.new X (Or.inr e); omega
      clear himg T5
      go_wp2_with fail
      refine wp_region_noPanic ?_
      refine wp_region_held_drew (S := fun w' => Blk w' X 4 (four 1 na nsh nf)) (by kernel_rfl) (hX8.keep ((Keep.refl (fun _ => False) _).drew) (fun e => e)) (fun hH0 => ?_)
      refine' wpAnyH_take (i := 0) (oi := { dst := some 144, op := Op.fieldAddr 38 (Operand.tmp 11) 0, type := 0, pos := "more.go:127", after := #[], guard := none }) (v := _) rfl (by kernel_rfl) (by kernel_rfl) (by kernel_rfl) (fun _ _ _ h => h) (Or.inl ⟨by rfl, ?hyB0⟩) hH0 ?rB0
      case hyB0 => (intro w' hSw; clear hSw; go_simp; try with_reducible rfl)
      simp only [Act.put, List.setIfInBounds_toArray, List.set_cons_zero, List.set_cons_succ]
      refine' wpAnyH_take (i := 1) (oi := { dst := some 145, op := Op.load 3 (Operand.tmp 144), type := 3, pos := "more.go:127", after := #[{ on := 0, ground := Ground.data }], guard := none }) (v := _) rfl (by kernel_rfl) (by kernel_rfl) (by kernel_rfl) (fun _ _ _ h => h) (Or.inl ⟨by rfl, ?hyB1⟩) hH0 ?rB1
      case hyB1 => (intro w' hSw; have x0 : w'.cell? ⟨X, 0, none⟩ = some (.int .i64 1) := (hSw 0 (by omega)).1; have x1 : w'.cell? ⟨X, 1, none⟩ = some (.int .i64 na) := (hSw 1 (by omega)).1; have x2 : w'.cell? ⟨X, 2, none⟩ = some (.int .i64 nsh) := (hSw 2 (by omega)).1; have x3 : w'.cell? ⟨X, 3, none⟩ = some (.int .u8 nf) := (hSw 3 (by omega)).1; clear hSw; go_simp; try with_reducible rfl)
      simp only [Act.put, List.setIfInBounds_toArray, List.set_cons_zero, List.set_cons_succ]
      refine' wpAnyH_take (i := 2) (oi := { dst := some 146, op := Op.binOp BinOp.eql 3 (Operand.tmp 145) (Operand.const (Value.int IntKind.i64 0)) 3, type := 4, pos := "more.go:127", after := #[{ on := 1, ground := Ground.data }], guard := none }) (v := _) rfl (by kernel_rfl) (by kernel_rfl) (by kernel_rfl) (fun _ _ _ h => h) (Or.inl ⟨by rfl, ?hyB2⟩) hH0 ?rB2
      case hyB2 => (intro w' hSw; clear hSw; go_simp; try with_reducible rfl)
      simp only [Act.put, List.setIfInBounds_toArray, List.set_cons_zero, List.set_cons_succ]
      refine' wpAnyH_take (i := 3) (oi := { dst := some 147, op := Op.move (Operand.tmp 146), type := 4, pos := "more.go:127", after := #[{ on := 2, ground := Ground.data }], guard := none }) (v := _) rfl (by kernel_rfl) (by kernel_rfl) (by kernel_rfl) (fun _ _ _ h => h) (Or.inl ⟨by rfl, ?hyB3⟩) hH0 ?rB3
      case hyB3 => (intro w' hSw; clear hSw; go_simp; try with_reducible rfl)
      simp only [Act.put, List.setIfInBounds_toArray, List.set_cons_zero, List.set_cons_succ]
      refine' wpAnyH_take (i := 4) (oi := { dst := some 148, op := Op.move (Operand.tmp 13), type := 23, pos := "more.go:127", after := #[{ on := 3, ground := Ground.guard }], guard := some (3, true) }) (v := undef) rfl (by kernel_rfl) (by kernel_rfl) (by kernel_rfl) (fun _ _ _ h => h) (Or.inr ⟨by rfl, rfl⟩) hH0 ?rB4
      simp only [Act.put, List.setIfInBounds_toArray, List.set_cons_zero, List.set_cons_succ]
      refine' wpAnyH_take (i := 5) (oi := { dst := some 149, op := Op.fieldAddr 38 (Operand.tmp 11) 1, type := 0, pos := "more.go:127", after := #[{ on := 3, ground := Ground.guard }], guard := some (3, true) }) (v := undef) rfl (by kernel_rfl) (by kernel_rfl) (by kernel_rfl) (fun _ _ _ h => h) (Or.inr ⟨by rfl, rfl⟩) hH0 ?rB5
      simp only [Act.put, List.setIfInBounds_toArray, List.set_cons_zero, List.set_cons_succ]
      refine' wpAnyH_take (i := 6) (oi := { dst := some 150, op := Op.load 3 (Operand.tmp 149), type := 3, pos := "more.go:127", after := #[{ on := 5, ground := Ground.data }, { on := 3, ground := Ground.guard }], guard := some (3, true) }) (v := undef) rfl (by kernel_rfl) (by kernel_rfl) (by kernel_rfl) (fun _ _ _ h => h) (Or.inr ⟨by rfl, rfl⟩) hH0 ?rB6
      simp only [Act.put, List.setIfInBounds_toArray, List.set_cons_zero, List.set_cons_succ]
      refine' wpAnyH_take (i := 7) (oi := { dst := some 151, op := Op.load 38 (Operand.tmp 11), type := 38, pos := "more.go:127", after := #[{ on := 3, ground := Ground.guard }], guard := some (3, true) }) (v := undef) rfl (by kernel_rfl) (by kernel_rfl) (by kernel_rfl) (fun _ _ _ h => h) (Or.inr ⟨by rfl, rfl⟩) hH0 ?rB7
      simp only [Act.put, List.setIfInBounds_toArray, List.set_cons_zero, List.set_cons_succ]
      refine' wpAnyH_take (i := 8) (oi := { dst := some 152, op := Op.call { callee := Callee.value (Operand.func 17), args := #[Operand.tmp 151], argTypes := #[38] }, type := 28, pos := "more.go:127", after := #[{ on := 7, ground := Ground.data }, { on := 3, ground := Ground.chain }, { on := 3, ground := Ground.guard }], guard := some (3, true) }) (v := undef) rfl (by kernel_rfl) (by kernel_rfl) (by kernel_rfl) (fun _ _ _ h => h) (Or.inr ⟨by rfl, rfl⟩) hH0 ?rB8
      simp only [Act.put, List.setIfInBounds_toArray, List.set_cons_zero, List.set_cons_succ]
      refine' wpAnyH_take (i := 9) (oi := { dst := some 153, op := Op.call { callee := Callee.value (Operand.func 10), args := #[Operand.tmp 148, Operand.tmp 150, Operand.tmp 152], argTypes := #[23, 3, 28] }, type := 24, pos := "more.go:127", after := #[{ on := 4, ground := Ground.data }, { on := 6, ground := Ground.data }, { on := 8, ground := Ground.data }, { on := 8, ground := Ground.chain }, { on := 3, ground := Ground.guard }], guard := some (3, true) }) (v := undef) rfl (by kernel_rfl) (by kernel_rfl) (by kernel_rfl) (fun _ _ _ h => h) (Or.inr ⟨by rfl, rfl⟩) hH0 ?rB9
      simp only [Act.put, List.setIfInBounds_toArray, List.set_cons_zero, List.set_cons_succ]
      refine' wpAnyH_take (i := 10) (oi := { dst := some 154, op := Op.move (Operand.tmp 17), type := 23, pos := "more.go:127", after := #[{ on := 3, ground := Ground.guard }], guard := some (3, true) }) (v := undef) rfl (by kernel_rfl) (by kernel_rfl) (by kernel_rfl) (fun _ _ _ h => h) (Or.inr ⟨by rfl, rfl⟩) hH0 ?rB10
      simp only [Act.put, List.setIfInBounds_toArray, List.set_cons_zero, List.set_cons_succ]
      refine' wpAnyH_take (i := 11) (oi := { dst := some 155, op := Op.fieldAddr 38 (Operand.tmp 11) 1, type := 0, pos := "more.go:127", after := #[{ on := 3, ground := Ground.guard }], guard := some (3, true) }) (v := undef) rfl (by kernel_rfl) (by kernel_rfl) (by kernel_rfl) (fun _ _ _ h => h) (Or.inr ⟨by rfl, rfl⟩) hH0 ?rB11
      simp only [Act.put, List.setIfInBounds_toArray, List.set_cons_zero, List.set_cons_succ]
      refine' wpAnyH_take (i := 12) (oi := { dst := some 156, op := Op.load 3 (Operand.tmp 155), type := 3, pos := "more.go:127", after := #[{ on := 11, ground := Ground.data }, { on := 3, ground := Ground.guard }], guard := some (3, true) }) (v := undef) rfl (by kernel_rfl) (by kernel_rfl) (by kernel_rfl) (fun _ _ _ h => h) (Or.inr ⟨by rfl, rfl⟩) hH0 ?rB12
      simp only [Act.put, List.setIfInBounds_toArray, List.set_cons_zero, List.set_cons_succ]
      refine' wpAnyH_take (i := 13) (oi := { dst := some 157, op := Op.load 38 (Operand.tmp 11), type := 38, pos := "more.go:127", after := #[{ on := 3, ground := Ground.guard }], guard := some (3, true) }) (v := undef) rfl (by kernel_rfl) (by kernel_rfl) (by kernel_rfl) (fun _ _ _ h => h) (Or.inr ⟨by rfl, rfl⟩) hH0 ?rB13
      simp only [Act.put, List.setIfInBounds_toArray, List.set_cons_zero, List.set_cons_succ]
      refine' wpAnyH_take (i := 14) (oi := { dst := some 158, op := Op.call { callee := Callee.value (Operand.func 17), args := #[Operand.tmp 157], argTypes := #[38] }, type := 28, pos := "more.go:127", after := #[{ on := 13, ground := Ground.data }, { on := 9, ground := Ground.chain }, { on := 3, ground := Ground.guard }], guard := some (3, true) }) (v := undef) rfl (by kernel_rfl) (by kernel_rfl) (by kernel_rfl) (fun _ _ _ h => h) (Or.inr ⟨by rfl, rfl⟩) hH0 ?rB14
      simp only [Act.put, List.setIfInBounds_toArray, List.set_cons_zero, List.set_cons_succ]
      refine' wpAnyH_take (i := 15) (oi := { dst := some 159, op := Op.call { callee := Callee.value (Operand.func 10), args := #[Operand.tmp 154, Operand.tmp 156, Operand.tmp 158], argTypes := #[23, 3, 28] }, type := 24, pos := "more.go:127", after := #[{ on := 10, ground := Ground.data }, { on := 12, ground := Ground.data }, { on := 14, ground := Ground.data }, { on := 14, ground := Ground.chain }, { on := 3, ground := Ground.guard }], guard := some (3, true) }) (v := undef) rfl (by kernel_rfl) (by kernel_rfl) (by kernel_rfl) (fun _ _ _ h => h) (Or.inr ⟨by rfl, rfl⟩) hH0 ?rB15
      simp only [Act.put, List.setIfInBounds_toArray, List.set_cons_zero, List.set_cons_succ]
      refine' wpAnyH_take (i := 16) (oi := { dst := some 160, op := Op.binOp BinOp.neq 24 (Operand.tmp 153) (Operand.tmp 159) 24, type := 4, pos := "more.go:127", after := #[{ on := 9, ground := Ground.data }, { on := 15, ground := Ground.data }, { on := 3, ground := Ground.guard }], guard := some (3, true) }) (v := undef) rfl (by kernel_rfl) (by kernel_rfl) (by kernel_rfl) (fun _ _ _ h => h) (Or.inr ⟨by rfl, rfl⟩) hH0 ?rB16
      simp only [Act.put, List.setIfInBounds_toArray, List.set_cons_zero, List.set_cons_succ]
      refine' wpAnyH_take (i := 17) (oi := { dst := some 161, op := Op.pick (Operand.tmp 147) (Operand.tmp 160) (Operand.const (Value.bool false)), type := 4, pos := "more.go:127", after := #[{ on := 3, ground := Ground.data }, { on := 16, ground := Ground.data }], guard := none }) (v := _) rfl (by kernel_rfl) (by kernel_rfl) (by kernel_rfl) (fun _ _ _ h => h) (Or.inl ⟨by rfl, ?hyB17⟩) hH0 ?rB17
      case hyB17 => (intro w' hSw; clear hSw; go_simp; try with_reducible rfl)
      simp only [Act.put, List.setIfInBounds_toArray, List.set_cons_zero, List.set_cons_succ]
      refine' wpAnyH_take (i := 18) (oi := { dst := some 162, op := Op.move (Operand.tmp 161), type := 4, pos := "more.go:127", after := #[{ on := 17, ground := Ground.data }, { on := 15, ground := Ground.chain }], guard := none }) (v := _) rfl (by kernel_rfl) (by kernel_rfl) (by kernel_rfl) (fun _ _ _ h => h) (Or.inl ⟨by rfl, ?hyB18⟩) hH0 ?rB18
      case hyB18 => (intro w' hSw; clear hSw; go_simp; try with_reducible rfl)
      simp only [Act.put, List.setIfInBounds_toArray, List.set_cons_zero, List.set_cons_succ]
      refine' wpAnyH_take (i := 19) (oi := { dst := some 163, op := Op.fieldAddr 38 (Operand.tmp 11) 0, type := 0, pos := "more.go:127", after := #[{ on := 18, ground := Ground.guard }], guard := some (18, false) }) (v := _) rfl (by kernel_rfl) (by kernel_rfl) (by kernel_rfl) (fun _ _ _ h => h) (Or.inl ⟨by rfl, ?hyB19⟩) hH0 ?rB19
      case hyB19 => (intro w' hSw; clear hSw; go_simp; try with_reducible rfl)
      simp only [Act.put, List.setIfInBounds_toArray, List.set_cons_zero, List.set_cons_succ]
      refine' wpAnyH_take (i := 20) (oi := { dst := some 164, op := Op.load 3 (Operand.tmp 163), type := 3, pos := "more.go:127", after := #[{ on := 19, ground := Ground.data }, { on := 18, ground := Ground.guard }], guard := some (18, false) }) (v := _) rfl (by kernel_rfl) (by kernel_rfl) (by kernel_rfl) (fun _ _ _ h => h) (Or.inl ⟨by rfl, ?hyB20⟩) hH0 ?rB20
      case hyB20 => (intro w' hSw; have x0 : w'.cell? ⟨X, 0, none⟩ = some (.int .i64 1) := (hSw 0 (by omega)).1; have x1 : w'.cell? ⟨X, 1, none⟩ = some (.int .i64 na) := (hSw 1 (by omega)).1; have x2 : w'.cell? ⟨X, 2, none⟩ = some (.int .i64 nsh) := (hSw 2 (by omega)).1; have x3 : w'.cell? ⟨X, 3, none⟩ = some (.int .u8 nf) := (hSw 3 (by omega)).1; clear hSw; go_simp; try with_reducible rfl)
      simp only [Act.put, List.setIfInBounds_toArray, List.set_cons_zero, List.set_cons_succ]
      refine' wpAnyH_take (i := 21) (oi := { dst := some 165, op := Op.binOp BinOp.eql 3 (Operand.tmp 164) (Operand.const (Value.int IntKind.i64 1)) 3, type := 4, pos := "more.go:127", after := #[{ on := 20, ground := Ground.data }, { on := 18, ground := Ground.guard }], guard := some (18, false) }) (v := _) rfl (by kernel_rfl) (by kernel_rfl) (by kernel_rfl) (fun _ _ _ h => h) (Or.inl ⟨by rfl, ?hyB21⟩) hH0 ?rB21
      case hyB21 => (intro w' hSw; clear hSw; go_simp; try with_reducible rfl)
      simp only [Act.put, List.setIfInBounds_toArray, List.set_cons_zero, List.set_cons_succ]
      refine' wpAnyH_take (i := 22) (oi := { dst := some 166, op := Op.move (Operand.tmp 165), type := 4, pos := "more.go:127", after := #[{ on := 21, ground := Ground.data }, { on := 18, ground := Ground.chain }, { on := 18, ground := Ground.guard }], guard := some (18, false) }) (v := _) rfl (by kernel_rfl) (by kernel_rfl) (by kernel_rfl) (fun _ _ _ h => h) (Or.inl ⟨by rfl, ?hyB22⟩) hH0 ?rB22
      case hyB22 => (intro w' hSw; clear hSw; go_simp; try with_reducible rfl)
      simp only [Act.put, List.setIfInBounds_toArray, List.set_cons_zero, List.set_cons_succ]
      refine' wpAnyH_take (i := 23) (oi := { dst := some 167, op := Op.move (Operand.tmp 13), type := 23, pos := "more.go:127", after := #[{ on := 22, ground := Ground.guard }], guard := some (22, true) }) (v := _) rfl (by kernel_rfl) (by kernel_rfl) (by kernel_rfl) (fun _ _ _ h => h) (Or.inl ⟨by rfl, ?hyB23⟩) hH0 ?rB23
      case hyB23 => (intro w' hSw; clear hSw; go_simp; try with_reducible rfl)
      simp only [Act.put, List.setIfInBounds_toArray, List.set_cons_zero, List.set_cons_succ]
      refine' wpAnyH_take (i := 24) (oi := { dst := some 168, op := Op.fieldAddr 38 (Operand.tmp 11) 1, type := 0, pos := "more.go:127", after := #[{ on := 22, ground := Ground.guard }], guard := some (22, true) }) (v := _) rfl (by kernel_rfl) (by kernel_rfl) (by kernel_rfl) (fun _ _ _ h => h) (Or.inl ⟨by rfl, ?hyB24⟩) hH0 ?rB24
      case hyB24 => (intro w' hSw; clear hSw; go_simp; try with_reducible rfl)
      simp only [Act.put, List.setIfInBounds_toArray, List.set_cons_zero, List.set_cons_succ]
      refine' wpAnyH_take (i := 25) (oi := { dst := some 169, op := Op.load 3 (Operand.tmp 168), type := 3, pos := "more.go:127", after := #[{ on := 24, ground := Ground.data }, { on := 22, ground := Ground.guard }], guard := some (22, true) }) (v := _) rfl (by kernel_rfl) (by kernel_rfl) (by kernel_rfl) (fun _ _ _ h => h) (Or.inl ⟨by rfl, ?hyB25⟩) hH0 ?rB25
      case hyB25 => (intro w' hSw; have x0 : w'.cell? ⟨X, 0, none⟩ = some (.int .i64 1) := (hSw 0 (by omega)).1; have x1 : w'.cell? ⟨X, 1, none⟩ = some (.int .i64 na) := (hSw 1 (by omega)).1; have x2 : w'.cell? ⟨X, 2, none⟩ = some (.int .i64 nsh) := (hSw 2 (by omega)).1; have x3 : w'.cell? ⟨X, 3, none⟩ = some (.int .u8 nf) := (hSw 3 (by omega)).1; clear hSw; go_simp; try with_reducible rfl)
      simp only [Act.put, List.setIfInBounds_toArray, List.set_cons_zero, List.set_cons_succ]
      refine' wpAnyH_take (i := 27) (oi := { dst := some 171, op := Op.move (Operand.tmp 17), type := 23, pos := "more.go:127", after := #[{ on := 22, ground := Ground.guard }], guard := some (22, true) }) (v := _) rfl (by kernel_rfl) (by kernel_rfl) (by kernel_rfl) (fun _ _ _ h => h) (Or.inl ⟨by rfl, ?hyB27⟩) hH0 ?rB27
      case hyB27 => (intro w' hSw; clear hSw; go_simp; try with_reducible rfl)
      simp only [Act.put, List.setIfInBounds_toArray, List.set_cons_zero, List.set_cons_succ]
      refine' wpAnyH_take (i := 28) (oi := { dst := some 172, op := Op.fieldAddr 38 (Operand.tmp 11) 1, type := 0, pos := "more.go:127", after := #[{ on := 22, ground := Ground.guard }], guard := some (22, true) }) (v := _) rfl (by kernel_rfl) (by kernel_rfl) (by kernel_rfl) (fun _ _ _ h => h) (Or.inl ⟨by rfl, ?hyB28⟩) hH0 ?rB28
      case hyB28 => (intro w' hSw; clear hSw; go_simp; try with_reducible rfl)
      simp only [Act.put, List.setIfInBounds_toArray, List.set_cons_zero, List.set_cons_succ]
      refine' wpAnyH_take (i := 29) (oi := { dst := some 173, op := Op.load 3 (Operand.tmp 172), type := 3, pos := "more.go:127", after := #[{ on := 28, ground := Ground.data }, { on := 22, ground := Ground.guard }], guard := some (22, true) }) (v := _) rfl (by kernel_rfl) (by kernel_rfl) (by kernel_rfl) (fun _ _ _ h => h) (Or.inl ⟨by rfl, ?hyB29⟩) hH0 ?rB29
      case hyB29 => (intro w' hSw; have x0 : w'.cell? ⟨X, 0, none⟩ = some (.int .i64 1) := (hSw 0 (by omega)).1; have x1 : w'.cell? ⟨X, 1, none⟩ = some (.int .i64 na) := (hSw 1 (by omega)).1; have x2 : w'.cell? ⟨X, 2, none⟩ = some (.int .i64 nsh) := (hSw 2 (by omega)).1; have x3 : w'.cell? ⟨X, 3, none⟩ = some (.int .u8 nf) := (hSw 3 (by omega)).1; clear hSw; go_simp; try with_reducible rfl)
      simp only [Act.put, List.setIfInBounds_toArray, List.set_cons_zero, List.set_cons_succ]
      refine wpAnyH_ready (rs := [26]) (by kernel_rfl) (by simp) ?_
      refine AllReadyH.cons (o := { dst := some 170, op := Op.call { callee := Callee.value (Operand.func 13), args := #[Operand.tmp 167, Operand.tmp 169], argTypes := #[23, 3] }, type := 24, pos := "more.go:127", after := #[{ on := 23, ground := Ground.data }, { on := 25, ground := Ground.data }, { on := 22, ground := Ground.chain }, { on := 22, ground := Ground.guard }], guard := some (22, true) }) rfl (fun K hK => ?_) AllReadyH.nil
      refine step_call_want (vs := #[.pointer (some ⟨p, 0, none⟩), .int .i64 na]) (R := fun u w2 => u = .int .i64 ((s.call1 na).1 : Nat) ∧ Mem w2 p c k (s.call1 na).2 ∧ Keep (Own p c k) w8 w2) (by rfl) 13 #[Operand.tmp 167, Operand.tmp 169] #[23, 3] rfl (by simp [Act.eval]) call13 ((call1_any T8.one.drew ok (by omega) na).mono (by rintro e w9 ⟨rfl, hm, hk⟩; exact ⟨_, rfl, rfl, hm, ((Keep.refl _ w8).drew).trans hk⟩)) ?_
      rintro u wb ⟨rfl, hmb, hkb⟩
      refine hK.out _ _ (hX8.keep hkb hXo) (fun hH1 => ?_)
      clear hK K hH0
      simp only [Act.put, List.setIfInBounds_toArray, List.set_cons_zero, List.set_cons_succ]
      have Tb := T8.own1 hmb hkb
      have hsim := (Sim.fresh s).call1 na
      refine wpAnyH_ready (rs := [30]) (by kernel_rfl) (by simp) ?_
      refine AllReadyH.cons (o := { dst := some 174, op := Op.call { callee := Callee.value (Operand.func 13), args := #[Operand.tmp 171, Operand.tmp 173], argTypes := #[23, 3] }, type := 24, pos := "more.go:127", after := #[{ on := 27, ground := Ground.data }, { on := 29, ground := Ground.data }, { on := 26, ground := Ground.chain }, { on := 22, ground := Ground.guard }], guard := some (22, true) }) rfl (fun K hK => ?_) AllReadyH.nil
      refine step_call_want (vs := #[.pointer (some ⟨p2x, 0, none⟩), .int .i64 na]) (R := fun u w2 => u = .int .i64 ((s.fresh.call1 na).1 : Nat) ∧ Mem w2 p2x c2 k2 (s.fresh.call1 na).2 ∧ Keep (Own p2x c2 k2) wb w2) (by rfl) 13 #[Operand.tmp 171, Operand.tmp 173] #[23, 3] rfl (by simp [Act.eval]) call13 ((call1_any Tb.two okf (by omega) na).mono (by rintro e w9 ⟨rfl, hm, hk⟩; exact ⟨_, rfl, rfl, hm, hk⟩)) ?_
      rintro u wd ⟨rfl, hmd, hkd⟩
      refine hK.out _ _ ((hX8.keep hkb hXo).keep hkd hXo2) (fun hH2 => ?_)
      clear hK K hH1
      simp only [Act.put, List.setIfInBounds_toArray, List.set_cons_zero, List.set_cons_succ]
      have Td := Tb.own2 hmd hkd
      have hke : (s.call1 na).1 = (s.fresh.call1 na).1 := hsim.1
      have okd := ok.call1 na
      have okd2 := okf.call1 na
      have hKd : Keep (fun b => Own p c k b ∨ Own p2x c2 k2 b) w8 wd := (hkb.mono (fun _ _ e => Or.inl e)).trans (hkd.mono (fun _ _ e => Or.inr e))
      rw [← hke]
      refine' wpAnyH_take (i := 31) (oi := { dst := some 175, op := Op.binOp BinOp.neq 24 (Operand.tmp 170) (Operand.tmp 174) 24, type := 4, pos := "more.go:127", after := #[{ on := 26, ground := Ground.data }, { on := 30, ground := Ground.data }, { on := 22, ground := Ground.guard }], guard := some (22, true) }) (v := _) rfl (by kernel_rfl) (by kernel_rfl) (by kernel_rfl) (fun _ _ _ h => h) (Or.inl ⟨by rfl, ?hyB31⟩) hH2 ?rB31
      case hyB31 => (intro w' hSw; clear hSw; go_simp; try with_reducible rfl)
      simp only [Act.put, List.setIfInBounds_toArray, List.set_cons_zero, List.set_cons_succ]
      refine' wpAnyH_take (i := 32) (oi := { dst := some 176, op := Op.pick (Operand.tmp 166) (Operand.tmp 175) (Operand.const (Value.bool false)), type := 4, pos := "more.go:127", after := #[{ on := 22, ground := Ground.data }, { on := 31, ground := Ground.data }, { on := 18, ground := Ground.guard }], guard := some (18, false) }) (v := _) rfl (by kernel_rfl) (by kernel_rfl) (by kernel_rfl) (fun _ _ _ h => h) (Or.inl ⟨by rfl, ?hyB32⟩) hH2 ?rB32
      case hyB32 => (intro w' hSw; clear hSw; go_simp; try with_reducible rfl)
      simp only [Act.put, List.setIfInBounds_toArray, List.set_cons_zero, List.set_cons_succ]
      refine' wpAnyH_take (i := 33) (oi := { dst := some 177, op := Op.pick (Operand.tmp 162) (Operand.const (Value.bool true)) (Operand.tmp 176), type := 4, pos := "more.go:127", after := #[{ on := 18, ground := Ground.data }, { on := 32, ground := Ground.data }], guard := none }) (v := _) rfl (by kernel_rfl) (by kernel_rfl) (by kernel_rfl) (fun _ _ _ h => h) (Or.inl ⟨by rfl, ?hyB33⟩) hH2 ?rB33
      case hyB33 => (intro w' hSw; clear hSw; go_simp; try with_reducible rfl)
      simp only [Act.put, List.setIfInBounds_toArray, List.set_cons_zero, List.set_cons_succ]
      refine' wpAnyH_take (i := 34) (oi := { dst := some 178, op := Op.move (Operand.tmp 177), type := 4, pos := "more.go:127", after := #[{ on := 33, ground := Ground.data }, { on := 30, ground := Ground.chain }], guard := none }) (v := _) rfl (by kernel_rfl) (by kernel_rfl) (by kernel_rfl) (fun _ _ _ h => h) (Or.inl ⟨by rfl, ?hyB34⟩) hH2 ?rB34
      case hyB34 => (intro w' hSw; clear hSw; go_simp; try with_reducible rfl)
      simp only [Act.put, List.setIfInBounds_toArray, List.set_cons_zero, List.set_cons_succ]
      refine' wpAnyH_take (i := 35) (oi := { dst := some 179, op := Op.move (Operand.tmp 13), type := 23, pos := "more.go:127", after := #[{ on := 34, ground := Ground.guard }], guard := some (34, false) }) (v := _) rfl (by kernel_rfl) (by kernel_rfl) (by kernel_rfl) (fun _ _ _ h => h) (Or.inl ⟨by rfl, ?hyB35⟩) hH2 ?rB35
      case hyB35 => (intro w' hSw; clear hSw; go_simp; try with_reducible rfl)
      simp only [Act.put, List.setIfInBounds_toArray, List.set_cons_zero, List.set_cons_succ]
      refine' wpAnyH_take (i := 38) (oi := { dst := some 182, op := Op.move (Operand.tmp 17), type := 23, pos := "more.go:127", after := #[{ on := 34, ground := Ground.guard }], guard := some (34, false) }) (v := _) rfl (by kernel_rfl) (by kernel_rfl) (by kernel_rfl) (fun _ _ _ h => h) (Or.inl ⟨by rfl, ?hyB38⟩) hH2 ?rB38
      case hyB38 => (intro w' hSw; clear hSw; go_simp; try with_reducible rfl)
      simp only [Act.put, List.setIfInBounds_toArray, List.set_cons_zero, List.set_cons_succ]
      have hXd : Blk wd X 4 (four 1 na nsh nf) := (hX8.keep hkb hXo).keep hkd hXo2
      have hsz2 : (s.call1 na).2.size = (s.fresh.call1 na).2.size := hsim.2.image.2
      refine wpAnyH_ready (rs := [36]) (by kernel_rfl) (by simp) ?_
      refine AllReadyH.cons (o := { dst := some 180, op := Op.call { callee := Callee.value (Operand.func 27), args := #[Operand.tmp 179], argTypes := #[23] }, type := 28, pos := "more.go:127", after := #[{ on := 35, ground := Ground.data }, { on := 34, ground := Ground.chain }, { on := 34, ground := Ground.guard }], guard := some (34, false) }) rfl (fun K hK => ?_) AllReadyH.nil
      refine step_call_want (vs := #[.pointer (some ⟨p, 0, none⟩)]) (R := fun u w2 => ∃ g cap, u = Value.slice (some ⟨g, 0, none⟩) (s.call1 na).2.size cap ∧ Row w2 (some ⟨g, 0, none⟩) (s.call1 na).2.size cap (tab (s.call1 na).2.size (s.call1 na).2.image) ∧ Keep (fun _ => False) wd w2) (by rfl) 27 #[Operand.tmp 179] #[23] rfl (by simp [Act.eval]) call27 ((image_any Td.one okd).mono (by rintro e w4 ⟨g, cap, rfl, _, hr, _, _, hk⟩; exact ⟨_, rfl, g, cap, rfl, hr, hk⟩)) ?_
      rintro u we ⟨ge, cape, rfl, hre, hke2⟩
      refine hK.out _ _ (hXd.keep hke2 (fun e => e)) (fun hH3 => ?_)
      clear hK K hH2
      simp only [Act.put, List.setIfInBounds_toArray, List.set_cons_zero, List.set_cons_succ]
      refine wpAnyH_strong (S' := fun w' => Keep (fun _ => False) we w') (fun w' h => (hXd.keep hke2 (fun e => e)).keep h (fun e => e)) ?_
      have hHZ : Keep (fun _ => False) we we := Keep.refl _ _
      refine' wpAnyH_take (i := 37) (oi := { dst := some 181, op := Op.convert 28 9 (Operand.tmp 180), type := 9, pos := "more.go:127", after := #[{ on := 36, ground := Ground.data }, { on := 34, ground := Ground.guard }], guard := some (34, false) }) (v := .string (strOfNums (tab (s.call1 na).2.size (s.call1 na).2.image))) rfl (by kernel_rfl) (by kernel_rfl) (by kernel_rfl) (fun _ _ _ h => h) (yields_conv (by rfl) 28 9 (.tmp 180) rfl (by rfl) (fun w' h => (hre.keep h (fun _ _ _ e => e)).text)) hHZ ?rB37
      simp only [Act.put, List.setIfInBounds_toArray, List.set_cons_zero, List.set_cons_succ]
      refine wpAnyH_ready (rs := [39]) (by kernel_rfl) (by simp) ?_
      refine AllReadyH.cons (o := { dst := some 183, op := Op.call { callee := Callee.value (Operand.func 27), args := #[Operand.tmp 182], argTypes := #[23] }, type := 28, pos := "more.go:127", after := #[{ on := 38, ground := Ground.data }, { on := 36, ground := Ground.chain }, { on := 34, ground := Ground.guard }], guard := some (34, false) }) rfl (fun K hK => ?_) AllReadyH.nil
      refine step_call_want (vs := #[.pointer (some ⟨p2x, 0, none⟩)]) (R := fun u w2 => ∃ g cap, u = Value.slice (some ⟨g, 0, none⟩) (s.call1 na).2.size cap ∧ Row w2 (some ⟨g, 0, none⟩) (s.call1 na).2.size cap (tab (s.call1 na).2.size (s.call1 na).2.image) ∧ Keep (fun _ => False) we w2) (by rfl) 27 #[Operand.tmp 182] #[23] rfl (by simp [Act.eval]) call27 ((image_any (Td.aside hke2).two okd2).mono (by rintro e w4 ⟨g, cap, rfl, _, hr, _, _, hk⟩; rw [← hsim.2.image.1, ← hsim.2.image.2] at hr; exact ⟨_, rfl, g, cap, by rw [hsim.2.image.2], hr, hk⟩)) ?_
      rintro u wf ⟨gf, capf, rfl, hrf, hkf⟩
      refine hK.out _ _ (hkf) (fun hHY1 => ?_)
      clear hK K
      simp only [Act.put, List.setIfInBounds_toArray, List.set_cons_zero, List.set_cons_succ]
      have htf := hrf.text
      refine wpAnyH_ready (rs := [40]) (by kernel_rfl) (by simp) ?_
      refine AllReadyH.cons (o := { dst := some 184, op := Op.convert 28 9 (Operand.tmp 183), type := 9, pos := "more.go:127", after := #[{ on := 39, ground := Ground.data }, { on := 34, ground := Ground.guard }], guard := some (34, false) }) rfl (fun K hK => ?_) AllReadyH.nil
      refine step_conv_run (by rfl) 28 9 (.tmp 183) rfl (by rfl) htf ?_
      refine hK.out _ _ (hkf) (fun hHY2 => ?_)
      clear hK K
      simp only [Act.put, List.setIfInBounds_toArray, List.set_cons_zero, List.set_cons_succ]
      refine' wpAnyH_take (i := 41) (oi := { dst := some 185, op := Op.binOp BinOp.neq 9 (Operand.tmp 181) (Operand.tmp 184) 9, type := 4, pos := "more.go:127", after := #[{ on := 37, ground := Ground.data }, { on := 40, ground := Ground.data }, { on := 34, ground := Ground.guard }], guard := some (34, false) }) (v := _) rfl (by kernel_rfl) (by kernel_rfl) (by kernel_rfl) (fun _ _ _ h => h) (Or.inl ⟨by rfl, ?hyB41⟩) hHY2 ?rB41
      case hyB41 => (intro w' hSw; clear hSw; go_simp; try with_reducible rfl)
      simp only [Act.put, List.setIfInBounds_toArray, List.set_cons_zero, List.set_cons_succ]
      refine' wpAnyH_take (i := 42) (oi := { dst := some 186, op := Op.pick (Operand.tmp 178) (Operand.const (Value.bool true)) (Operand.tmp 185), type := 4, pos := "more.go:127", after := #[{ on := 34, ground := Ground.data }, { on := 41, ground := Ground.data }], guard := none }) (v := _) rfl (by kernel_rfl) (by kernel_rfl) (by kernel_rfl) (fun _ _ _ h => h) (Or.inl ⟨by rfl, ?hyB42⟩) hHY2 ?rB42
      case hyB42 => (intro w' hSw; clear hSw; go_simp; try with_reducible rfl)
      simp only [Act.put, List.setIfInBounds_toArray, List.set_cons_zero, List.set_cons_succ]
      refine wpAnyH_done (by kernel_rfl) ?_ _
      refine NoPanic.normal ?_
      have hKf : Keep (fun b => Own p c k b ∨ Own p2x c2 k2 b) w8 wf := hKd.trans (hke2.none.trans hkf.none)
      obtain ⟨SZ, hSZ⟩ : ∃ z, s.size = z := ⟨_, rfl⟩
      obtain ⟨d, hd0⟩ : ∃ d, s.image = d := ⟨_, rfl⟩
      have hd : ∀ i, 0 ≤ d i ∧ d i ≤ 255 := hd0 ▸ image_byte ok
      have HSZ : Hid (B * P * 68 + 2 * B = SZ) := by show _ = _; rw [← hSZ, ← hB, ← hP]; rfl
      simp only [hSZ, hd0] at hrow4 ⊢
      clear hSZ hd0
      clear hX8 hXd hkb hkd hmb hmd Tb Td hsim hke okd okd2 hre hrf htf
      have hgn1 : ¬ (Own p c k g ∨ Own p2x c2 k2 g) := fun e => by
        rcases e with e | e
        · exact hgo e
        · exact hgo2 e
      have hRg : Row wf (some ⟨g, 0, none⟩) SZ capg (tab SZ d) := (hrow4.keep (hk45.trans hk58) (fun _ _ _ e => e)).keep hKf (fun b o e hS => hgn1 (by simp only [Option.some.injEq, Addr.mk.injEq, and_true] at e; rw [e.1]; exact hS))
      have hFg : Free wf g capg := (hfree4.keep (hk45.trans hk58) (fun e => e)).keep hKf hgn1
      have hKg : Keep (fun _ => False) w wf := (hK0.trans (T8.keep)).next hKf (fun x hx e => by have := T8.new x e; have := hK0.size; omega)
      have hcapg := hRg.2.1
      have hcapg2 := hRg.2.2.1
      clear hrow4 hfree4
      by_cases hin : 0 ≤ ix ∧ ix < SZ
      · obtain ⟨i, rfl⟩ := Int.eq_ofNat_of_zero_le hin.1
        have hiS : i < SZ := by omega
        have hc := hRg.cellAt hiS
        rw [tab_get d hiS] at hc
        have hfz := (hFg i (by omega)).2
        have hx8 := xor8 (d i) xr
        have hRh := hRg.set hiS hx8
        have hFh := hFg.set ⟨g, i, none⟩ (.int .u8 (bits .xor .u8 (d i) xr))
        have hgK : w.heap.size ≤ g := by have := hK0.size; omega
        have hKh : Keep (fun _ => False) w (wf.setCell ⟨g, i, none⟩ (.int .u8 (bits .xor .u8 (d i) xr))) := hKg.next ((Keep.refl (fun b => b = g) wf).setCell (p := ⟨g, i, none⟩) (Or.inl rfl) _) (fun x hx e => by omega)
        rw [tab_set] at hRh
        obtain ⟨dd, hdd0⟩ : ∃ dd : Nat → Int, dd = fun j => if j = i then bits .xor .u8 (d i) xr else d j := ⟨_, rfl⟩
        have hdd : ∀ j, 0 ≤ dd j ∧ dd j ≤ 255 := fun j => by rw [hdd0]; show 0 ≤ (if j = i then _ else _) ∧ (if j = i then _ else _) ≤ (255 : Int); split; exact hx8; exact hd j
        rw [← hdd0] at hRh
        have hi1 : (i : Int) < SZ := hin.2
        clear hdd0 hRg hFg hx8
        go_wp2_with fail
        clear hc hfz
        generalize wf.setCell ⟨g, i, none⟩ (.int .u8 (bits .xor .u8 (d i) xr)) = wh at *
        have hload := load_any b1 b2 p1 p2 hdd (show Row _ (some ⟨g, 0, none⟩) (B * P * 68 + 2 * B) capg (tab (B * P * 68 + 2 * B) dd) by rw [HSZ.out]; exact hRh) hFh
        rw [HSZ.out] at hload
        go_wp2_with fail
        refine hload.mono ?_
        rintro e wl hl
        clear hload
        have HKl := hl.keep
        have hRl := hRh.keep HKl (fun _ _ _ e => e)
        have hright := right_any b2 p1 p2 hdd (show Row _ (some ⟨g, 0, none⟩) (B * P * 68 + 2 * B) capg (tab (B * P * 68 + 2 * B) dd) by rw [HSZ.out]; exact hRl)
        rw [HSZ.out] at hright
        rcases hl with ⟨p3, c3, k3, rfl, hgood, hm3, hp3, hc3, hk3, hkl⟩ | ⟨rfl, hbad, hkl⟩
        · obtain ⟨t, hmt, okt, hszt, himt⟩ := load_ok b1 b2 p1 p2 hdd wl p3 c3 k3 hgood hm3
          rw [HSZ.out] at hszt himt
          clear hm3 hp3 hc3 hk3
          go_wp2_with fail
          refine hright.mono ?_
          rintro e wl ⟨⟨r, rfl, hri⟩, rfl⟩
          obtain rfl : r = true := hri.2 hgood
          clear hri hright hgood
          go_wp2_with fail
          refine wp_region_noPanic ?_
          refine wp_region_held_drew (S := fun w' => Keep (fun _ => False) wl w') (by kernel_rfl) ((Keep.refl _ _).drew) (fun hH0 => ?_)
          refine' wpAnyH_take (i := 0) (oi := { dst := some 215, op := Op.move (Operand.tmp 14), type := 24, pos := "more.go:135", after := #[], guard := none }) (v := _) rfl (by kernel_rfl) (by kernel_rfl) (by kernel_rfl) (fun _ _ _ h => h) (Or.inl ⟨by rfl, ?hyZBx0⟩) hH0 ?rZBx0
          case hyZBx0 => (intro w' hSw; clear hSw; go_simp; try with_reducible rfl)
          simp only [Act.put, List.setIfInBounds_toArray, List.set_cons_zero, List.set_cons_succ]
          refine' wpAnyH_take (i := 1) (oi := { dst := some 216, op := Op.binOp BinOp.eql 24 (Operand.tmp 215) (Operand.const (Value.int IntKind.i64 0)) 24, type := 4, pos := "more.go:135", after := #[{ on := 0, ground := Ground.data }], guard := none }) (v := _) rfl (by kernel_rfl) (by kernel_rfl) (by kernel_rfl) (fun _ _ _ h => h) (Or.inl ⟨by rfl, ?hyZBx1⟩) hH0 ?rZBx1
          case hyZBx1 => (intro w' hSw; clear hSw; go_simp; try with_reducible rfl)
          simp only [Act.put, List.setIfInBounds_toArray, List.set_cons_zero, List.set_cons_succ]
          refine' wpAnyH_take (i := 2) (oi := { dst := some 217, op := Op.move (Operand.tmp 216), type := 4, pos := "more.go:135", after := #[{ on := 1, ground := Ground.data }], guard := none }) (v := _) rfl (by kernel_rfl) (by kernel_rfl) (by kernel_rfl) (fun _ _ _ h => h) (Or.inl ⟨by rfl, ?hyZBx2⟩) hH0 ?rZBx2
          case hyZBx2 => (intro w' hSw; clear hSw; go_simp; try with_reducible rfl)
          simp only [Act.put, List.setIfInBounds_toArray, List.set_cons_zero, List.set_cons_succ]
          refine' wpAnyH_take (i := 3) (oi := { dst := some 218, op := Op.move (Operand.tmp 18), type := 23, pos := "more.go:135", after := #[{ on := 2, ground := Ground.guard }], guard := some (2, true) }) (v := _) rfl (by kernel_rfl) (by kernel_rfl) (by kernel_rfl) (fun _ _ _ h => h) (Or.inl ⟨by rfl, ?hyZBx3⟩) hH0 ?rZBx3
          case hyZBx3 => (intro w' hSw; clear hSw; go_simp; try with_reducible rfl)
          simp only [Act.put, List.setIfInBounds_toArray, List.set_cons_zero, List.set_cons_succ]
          refine' wpAnyH_take (i := 4) (oi := { dst := some 219, op := Op.binOp BinOp.neq 23 (Operand.tmp 218) (Operand.const (Value.pointer none)) 23, type := 4, pos := "more.go:135", after := #[{ on := 3, ground := Ground.data }, { on := 2, ground := Ground.guard }], guard := some (2, true) }) (v := _) rfl (by kernel_rfl) (by kernel_rfl) (by kernel_rfl) (fun _ _ _ h => h) (Or.inl ⟨by rfl, ?hyZBx4⟩) hH0 ?rZBx4
          case hyZBx4 => (intro w' hSw; clear hSw; go_simp; try with_reducible rfl)
          simp only [Act.put, List.setIfInBounds_toArray, List.set_cons_zero, List.set_cons_succ]
          refine' wpAnyH_take (i := 5) (oi := { dst := some 220, op := Op.pick (Operand.tmp 217) (Operand.tmp 219) (Operand.const (Value.bool false)), type := 4, pos := "more.go:135", after := #[{ on := 2, ground := Ground.data }, { on := 4, ground := Ground.data }], guard := none }) (v := _) rfl (by kernel_rfl) (by kernel_rfl) (by kernel_rfl) (fun _ _ _ h => h) (Or.inl ⟨by rfl, ?hyZBx5⟩) hH0 ?rZBx5
          case hyZBx5 => (intro w' hSw; clear hSw; go_simp; try with_reducible rfl)
          simp only [Act.put, List.setIfInBounds_toArray, List.set_cons_zero, List.set_cons_succ]
          refine' wpAnyH_take (i := 6) (oi := { dst := some 221, op := Op.move (Operand.tmp 220), type := 4, pos := "more.go:135", after := #[{ on := 5, ground := Ground.data }, { on := 2, ground := Ground.chain }], guard := none }) (v := _) rfl (by kernel_rfl) (by kernel_rfl) (by kernel_rfl) (fun _ _ _ h => h) (Or.inl ⟨by rfl, ?hyZBx6⟩) hH0 ?rZBx6
          case hyZBx6 => (intro w' hSw; clear hSw; go_simp; try with_reducible rfl)
          simp only [Act.put, List.setIfInBounds_toArray, List.set_cons_zero, List.set_cons_succ]
          refine' wpAnyH_take (i := 7) (oi := { dst := some 222, op := Op.move (Operand.tmp 18), type := 23, pos := "more.go:135", after := #[{ on := 6, ground := Ground.guard }], guard := some (6, true) }) (v := _) rfl (by kernel_rfl) (by kernel_rfl) (by kernel_rfl) (fun _ _ _ h => h) (Or.inl ⟨by rfl, ?hyZBx7⟩) hH0 ?rZBx7
          case hyZBx7 => (intro w' hSw; clear hSw; go_simp; try with_reducible rfl)
          simp only [Act.put, List.setIfInBounds_toArray, List.set_cons_zero, List.set_cons_succ]
          refine' wpAnyH_take (i := 10) (oi := { dst := some 225, op := Op.move (Operand.tmp 16), type := 28, pos := "more.go:135", after := #[{ on := 6, ground := Ground.guard }], guard := some (6, true) }) (v := _) rfl (by kernel_rfl) (by kernel_rfl) (by kernel_rfl) (fun _ _ _ h => h) (Or.inl ⟨by rfl, ?hyZBx10⟩) hH0 ?rZBx10
          case hyZBx10 => (intro w' hSw; clear hSw; go_simp; try with_reducible rfl)
          simp only [Act.put, List.setIfInBounds_toArray, List.set_cons_zero, List.set_cons_succ]
          refine' wpAnyH_take (i := 11) (oi := { dst := some 226, op := Op.convert 28 9 (Operand.tmp 225), type := 9, pos := "more.go:135", after := #[{ on := 10, ground := Ground.data }, { on := 6, ground := Ground.guard }], guard := some (6, true) }) (v := .string (strOfNums (tab SZ dd))) rfl (by kernel_rfl) (by kernel_rfl) (by kernel_rfl) (fun _ _ _ h => h) (yields_conv (by rfl) 28 9 (.tmp 225) rfl (by rfl) (fun w' h => (hRl.keep h (fun _ _ _ e => e)).text)) hH0 ?rZBx11
          simp only [Act.put, List.setIfInBounds_toArray, List.set_cons_zero, List.set_cons_succ]
          refine wpAnyH_ready (rs := [8]) (by kernel_rfl) (by simp) ?_
          refine AllReadyH.cons (o := { dst := some 223, op := Op.call { callee := Callee.value (Operand.func 27), args := #[Operand.tmp 222], argTypes := #[23] }, type := 28, pos := "more.go:135", after := #[{ on := 7, ground := Ground.data }, { on := 6, ground := Ground.chain }, { on := 6, ground := Ground.guard }], guard := some (6, true) }) rfl (fun K hK => ?_) AllReadyH.nil
          refine step_call_want (vs := #[.pointer (some ⟨p3, 0, none⟩)]) (R := fun u w2 => ∃ g cap, u = Value.slice (some ⟨g, 0, none⟩) SZ cap ∧ Row w2 (some ⟨g, 0, none⟩) SZ cap (tab SZ dd) ∧ Keep (fun _ => False) wl w2) (by rfl) 27 #[Operand.tmp 222] #[23] rfl (by simp [Act.eval]) call27 ((image_any hmt.drew okt).mono (by rintro e w4 ⟨g, cap, rfl, _, hr, _, _, hk⟩; rw [himt, hszt] at hr; exact ⟨_, rfl, g, cap, by rw [hszt], hr, ((Keep.refl _ wl).drew).trans hk⟩)) ?_
          rintro u wm ⟨gm, capm, rfl, hrm, hkm⟩
          refine hK.out _ _ (hkm) (fun hH1 => ?_)
          clear hK K hH0
          simp only [Act.put, List.setIfInBounds_toArray, List.set_cons_zero, List.set_cons_succ]
          have htm := hrm.text
          refine wpAnyH_ready (rs := [9]) (by kernel_rfl) (by simp) ?_
          refine AllReadyH.cons (o := { dst := some 224, op := Op.convert 28 9 (Operand.tmp 223), type := 9, pos := "more.go:135", after := #[{ on := 8, ground := Ground.data }, { on := 6, ground := Ground.guard }], guard := some (6, true) }) rfl (fun K hK => ?_) AllReadyH.nil
          refine step_conv_run (by rfl) 28 9 (.tmp 223) rfl (by rfl) htm ?_
          refine hK.out _ _ (hkm) (fun hH2 => ?_)
          clear hK K hH1
          simp only [Act.put, List.setIfInBounds_toArray, List.set_cons_zero, List.set_cons_succ]
          refine' wpAnyH_take (i := 12) (oi := { dst := some 227, op := Op.binOp BinOp.eql 9 (Operand.tmp 224) (Operand.tmp 226) 9, type := 4, pos := "more.go:135", after := #[{ on := 9, ground := Ground.data }, { on := 11, ground := Ground.data }, { on := 6, ground := Ground.guard }], guard := some (6, true) }) (v := _) rfl (by kernel_rfl) (by kernel_rfl) (by kernel_rfl) (fun _ _ _ h => h) (Or.inl ⟨by rfl, ?hyZBx12⟩) hH2 ?rZBx12
          case hyZBx12 => (intro w' hSw; clear hSw; go_simp; try with_reducible rfl)
          simp only [Act.put, List.setIfInBounds_toArray, List.set_cons_zero, List.set_cons_succ]
          refine' wpAnyH_take (i := 13) (oi := { dst := some 228, op := Op.pick (Operand.tmp 221) (Operand.tmp 227) (Operand.const (Value.bool false)), type := 4, pos := "more.go:135", after := #[{ on := 6, ground := Ground.data }, { on := 12, ground := Ground.data }], guard := none }) (v := _) rfl (by kernel_rfl) (by kernel_rfl) (by kernel_rfl) (fun _ _ _ h => h) (Or.inl ⟨by rfl, ?hyZBx13⟩) hH2 ?rZBx13
          case hyZBx13 => (intro w' hSw; clear hSw; go_simp; try with_reducible rfl)
          simp only [Act.put, List.setIfInBounds_toArray, List.set_cons_zero, List.set_cons_succ]
          refine' wpAnyH_take (i := 14) (oi := { dst := some 12, op := Op.assign (Operand.tmp 228), type := 4, pos := "more.go:135", after := #[{ on := 13, ground := Ground.data }, { on := 8, ground := Ground.chain }, { on := 0, ground := Ground.phase }, { on := 1, ground := Ground.phase }, { on := 2, ground := Ground.phase }, { on := 3, ground := Ground.phase }, { on := 4, ground := Ground.phase }, { on := 5, ground := Ground.phase }, { on := 6, ground := Ground.phase }, { on := 7, ground := Ground.phase }, { on := 8, ground := Ground.phase }, { on := 9, ground := Ground.phase }, { on := 10, ground := Ground.phase }, { on := 11, ground := Ground.phase }, { on := 12, ground := Ground.phase }, { on := 13, ground := Ground.phase }], guard := none }) (v := _) rfl (by kernel_rfl) (by kernel_rfl) (by kernel_rfl) (fun _ _ _ h => h) (Or.inl ⟨by rfl, ?hyZBx14⟩) hH2 ?rZBx14
          case hyZBx14 => (intro w' hSw; clear hSw; go_simp; try with_reducible rfl)
          simp only [Act.put, List.setIfInBounds_toArray, List.set_cons_zero, List.set_cons_succ]
          refine wpAnyH_done (by kernel_rfl) ?_ _
          refine NoPanic.normal ?_
          go_wp2_with fail
          go_ret
          exact ⟨rfl, (hKh.trans hkl).trans hkm⟩
        · go_wp2_with fail
          refine hright.mono ?_
          rintro e wl ⟨⟨r, rfl, hri⟩, rfl⟩
          obtain rfl : r = false := by cases r; rfl; exact absurd (hri.1 rfl) hbad
          clear hri hright hbad
          have hnone : Calls Try.prog 28 #[.int .i64 0, .int .i64 P, .slice (some ⟨g, 0, none⟩) SZ capg] wl fun e w' => e = .returned (.tuple #[.pointer none, .int .i64 1]) ∧ w' = wl := load_none
          go_wp2_with fail
          refine hnone.mono ?_
          rintro e wm ⟨rfl, rfl⟩
          go_wp2_with fail
          go_ret
          exact ⟨rfl, hKh.trans hkl⟩
      · have hin' : ¬ (0 ≤ ix ∧ ix < SZ) := hin
        have hRh := hRg
        have hFh := hFg
        have hKh := hKg
        have hdd := hd
        obtain ⟨dd, hdd0⟩ : ∃ dd : Nat → Int, dd = d := ⟨_, rfl⟩
        rw [← hdd0] at hRh hdd
        clear hRg hFg hKg
        by_cases h0 : 0 ≤ ix
        · have h1 : ¬ ix < SZ := fun e => hin ⟨h0, e⟩
          clear hin hin'
          have hload := load_any b1 b2 p1 p2 hdd (show Row _ (some ⟨g, 0, none⟩) (B * P * 68 + 2 * B) capg (tab (B * P * 68 + 2 * B) dd) by rw [HSZ.out]; exact hRh) hFh
          rw [HSZ.out] at hload
          go_wp2_with fail
          refine hload.mono ?_
          rintro e wl hl
          clear hload
          have HKl := hl.keep
          have hRl := hRh.keep HKl (fun _ _ _ e => e)
          have hright := right_any b2 p1 p2 hdd (show Row _ (some ⟨g, 0, none⟩) (B * P * 68 + 2 * B) capg (tab (B * P * 68 + 2 * B) dd) by rw [HSZ.out]; exact hRl)
          rw [HSZ.out] at hright
          rcases hl with ⟨p3, c3, k3, rfl, hgood, hm3, hp3, hc3, hk3, hkl⟩ | ⟨rfl, hbad, hkl⟩
          · obtain ⟨t, hmt, okt, hszt, himt⟩ := load_ok b1 b2 p1 p2 hdd wl p3 c3 k3 hgood hm3
            rw [HSZ.out] at hszt himt
            clear hm3 hp3 hc3 hk3
            go_wp2_with fail
            refine hright.mono ?_
            rintro e wl ⟨⟨r, rfl, hri⟩, rfl⟩
            obtain rfl : r = true := hri.2 hgood
            clear hri hright hgood
            go_wp2_with fail
            refine wp_region_noPanic ?_
            refine wp_region_held_drew (S := fun w' => Keep (fun _ => False) wl w') (by kernel_rfl) ((Keep.refl _ _).drew) (fun hH0 => ?_)
            refine' wpAnyH_take (i := 0) (oi := { dst := some 215, op := Op.move (Operand.tmp 14), type := 24, pos := "more.go:135", after := #[], guard := none }) (v := _) rfl (by kernel_rfl) (by kernel_rfl) (by kernel_rfl) (fun _ _ _ h => h) (Or.inl ⟨by rfl, ?hyZBy0⟩) hH0 ?rZBy0
            case hyZBy0 => (intro w' hSw; clear hSw; go_simp; try with_reducible rfl)
            simp only [Act.put, List.setIfInBounds_toArray, List.set_cons_zero, List.set_cons_succ]
            refine' wpAnyH_take (i := 1) (oi := { dst := some 216, op := Op.binOp BinOp.eql 24 (Operand.tmp 215) (Operand.const (Value.int IntKind.i64 0)) 24, type := 4, pos := "more.go:135", after := #[{ on := 0, ground := Ground.data }], guard := none }) (v := _) rfl (by kernel_rfl) (by kernel_rfl) (by kernel_rfl) (fun _ _ _ h => h) (Or.inl ⟨by rfl, ?hyZBy1⟩) hH0 ?rZBy1
            case hyZBy1 => (intro w' hSw; clear hSw; go_simp; try with_reducible rfl)
            simp only [Act.put, List.setIfInBounds_toArray, List.set_cons_zero, List.set_cons_succ]
            refine' wpAnyH_take (i := 2) (oi := { dst := some 217, op := Op.move (Operand.tmp 216), type := 4, pos := "more.go:135", after := #[{ on := 1, ground := Ground.data }], guard := none }) (v := _) rfl (by kernel_rfl) (by kernel_rfl) (by kernel_rfl) (fun _ _ _ h => h) (Or.inl ⟨by rfl, ?hyZBy2⟩) hH0 ?rZBy2
            case hyZBy2 => (intro w' hSw; clear hSw; go_simp; try with_reducible rfl)
            simp only [Act.put, List.setIfInBounds_toArray, List.set_cons_zero, List.set_cons_succ]
            refine' wpAnyH_take (i := 3) (oi := { dst := some 218, op := Op.move (Operand.tmp 18), type := 23, pos := "more.go:135", after := #[{ on := 2, ground := Ground.guard }], guard := some (2, true) }) (v := _) rfl (by kernel_rfl) (by kernel_rfl) (by kernel_rfl) (fun _ _ _ h => h) (Or.inl ⟨by rfl, ?hyZBy3⟩) hH0 ?rZBy3
            case hyZBy3 => (intro w' hSw; clear hSw; go_simp; try with_reducible rfl)
            simp only [Act.put, List.setIfInBounds_toArray, List.set_cons_zero, List.set_cons_succ]
            refine' wpAnyH_take (i := 4) (oi := { dst := some 219, op := Op.binOp BinOp.neq 23 (Operand.tmp 218) (Operand.const (Value.pointer none)) 23, type := 4, pos := "more.go:135", after := #[{ on := 3, ground := Ground.data }, { on := 2, ground := Ground.guard }], guard := some (2, true) }) (v := _) rfl (by kernel_rfl) (by kernel_rfl) (by kernel_rfl) (fun _ _ _ h => h) (Or.inl ⟨by rfl, ?hyZBy4⟩) hH0 ?rZBy4
            case hyZBy4 => (intro w' hSw; clear hSw; go_simp; try with_reducible rfl)
            simp only [Act.put, List.setIfInBounds_toArray, List.set_cons_zero, List.set_cons_succ]
            refine' wpAnyH_take (i := 5) (oi := { dst := some 220, op := Op.pick (Operand.tmp 217) (Operand.tmp 219) (Operand.const (Value.bool false)), type := 4, pos := "more.go:135", after := #[{ on := 2, ground := Ground.data }, { on := 4, ground := Ground.data }], guard := none }) (v := _) rfl (by kernel_rfl) (by kernel_rfl) (by kernel_rfl) (fun _ _ _ h => h) (Or.inl ⟨by rfl, ?hyZBy5⟩) hH0 ?rZBy5
            case hyZBy5 => (intro w' hSw; clear hSw; go_simp; try with_reducible rfl)
            simp only [Act.put, List.setIfInBounds_toArray, List.set_cons_zero, List.set_cons_succ]
            refine' wpAnyH_take (i := 6) (oi := { dst := some 221, op := Op.move (Operand.tmp 220), type := 4, pos := "more.go:135", after := #[{ on := 5, ground := Ground.data }, { on := 2, ground := Ground.chain }], guard := none }) (v := _) rfl (by kernel_rfl) (by kernel_rfl) (by kernel_rfl) (fun _ _ _ h => h) (Or.inl ⟨by rfl, ?hyZBy6⟩) hH0 ?rZBy6
            case hyZBy6 => (intro w' hSw; clear hSw; go_simp; try with_reducible rfl)
            simp only [Act.put, List.setIfInBounds_toArray, List.set_cons_zero, List.set_cons_succ]
            refine' wpAnyH_take (i := 7) (oi := { dst := some 222, op := Op.move (Operand.tmp 18), type := 23, pos := "more.go:135", after := #[{ on := 6, ground := Ground.guard }], guard := some (6, true) }) (v := _) rfl (by kernel_rfl) (by kernel_rfl) (by kernel_rfl) (fun _ _ _ h => h) (Or.inl ⟨by rfl, ?hyZBy7⟩) hH0 ?rZBy7
            case hyZBy7 => (intro w' hSw; clear hSw; go_simp; try with_reducible rfl)
            simp only [Act.put, List.setIfInBounds_toArray, List.set_cons_zero, List.set_cons_succ]
            refine' wpAnyH_take (i := 10) (oi := { dst := some 225, op := Op.move (Operand.tmp 16), type := 28, pos := "more.go:135", after := #[{ on := 6, ground := Ground.guard }], guard := some (6, true) }) (v := _) rfl (by kernel_rfl) (by kernel_rfl) (by kernel_rfl) (fun _ _ _ h => h) (Or.inl ⟨by rfl, ?hyZBy10⟩) hH0 ?rZBy10
            case hyZBy10 => (intro w' hSw; clear hSw; go_simp; try with_reducible rfl)
            simp only [Act.put, List.setIfInBounds_toArray, List.set_cons_zero, List.set_cons_succ]
            refine' wpAnyH_take (i := 11) (oi := { dst := some 226, op := Op.convert 28 9 (Operand.tmp 225), type := 9, pos := "more.go:135", after := #[{ on := 10, ground := Ground.data }, { on := 6, ground := Ground.guard }], guard := some (6, true) }) (v := .string (strOfNums (tab SZ dd))) rfl (by kernel_rfl) (by kernel_rfl) (by kernel_rfl) (fun _ _ _ h => h) (yields_conv (by rfl) 28 9 (.tmp 225) rfl (by rfl) (fun w' h => (hRl.keep h (fun _ _ _ e => e)).text)) hH0 ?rZBy11
            simp only [Act.put, List.setIfInBounds_toArray, List.set_cons_zero, List.set_cons_succ]
            refine wpAnyH_ready (rs := [8]) (by kernel_rfl) (by simp) ?_
            refine AllReadyH.cons (o := { dst := some 223, op := Op.call { callee := Callee.value (Operand.func 27), args := #[Operand.tmp 222], argTypes := #[23] }, type := 28, pos := "more.go:135", after := #[{ on := 7, ground := Ground.data }, { on := 6, ground := Ground.chain }, { on := 6, ground := Ground.guard }], guard := some (6, true) }) rfl (fun K hK => ?_) AllReadyH.nil
            refine step_call_want (vs := #[.pointer (some ⟨p3, 0, none⟩)]) (R := fun u w2 => ∃ g cap, u = Value.slice (some ⟨g, 0, none⟩) SZ cap ∧ Row w2 (some ⟨g, 0, none⟩) SZ cap (tab SZ dd) ∧ Keep (fun _ => False) wl w2) (by rfl) 27 #[Operand.tmp 222] #[23] rfl (by simp [Act.eval]) call27 ((image_any hmt.drew okt).mono (by rintro e w4 ⟨g, cap, rfl, _, hr, _, _, hk⟩; rw [himt, hszt] at hr; exact ⟨_, rfl, g, cap, by rw [hszt], hr, ((Keep.refl _ wl).drew).trans hk⟩)) ?_
            rintro u wm ⟨gm, capm, rfl, hrm, hkm⟩
            refine hK.out _ _ (hkm) (fun hH1 => ?_)
            clear hK K hH0
            simp only [Act.put, List.setIfInBounds_toArray, List.set_cons_zero, List.set_cons_succ]
            have htm := hrm.text
            refine wpAnyH_ready (rs := [9]) (by kernel_rfl) (by simp) ?_
            refine AllReadyH.cons (o := { dst := some 224, op := Op.convert 28 9 (Operand.tmp 223), type := 9, pos := "more.go:135", after := #[{ on := 8, ground := Ground.data }, { on := 6, ground := Ground.guard }], guard := some (6, true) }) rfl (fun K hK => ?_) AllReadyH.nil
            refine step_conv_run (by rfl) 28 9 (.tmp 223) rfl (by rfl) htm ?_
            refine hK.out _ _ (hkm) (fun hH2 => ?_)
            clear hK K hH1
            simp only [Act.put, List.setIfInBounds_toArray, List.set_cons_zero, List.set_cons_succ]
            refine' wpAnyH_take (i := 12) (oi := { dst := some 227, op := Op.binOp BinOp.eql 9 (Operand.tmp 224) (Operand.tmp 226) 9, type := 4, pos := "more.go:135", after := #[{ on := 9, ground := Ground.data }, { on := 11, ground := Ground.data }, { on := 6, ground := Ground.guard }], guard := some (6, true) }) (v := _) rfl (by kernel_rfl) (by kernel_rfl) (by kernel_rfl) (fun _ _ _ h => h) (Or.inl ⟨by rfl, ?hyZBy12⟩) hH2 ?rZBy12
            case hyZBy12 => (intro w' hSw; clear hSw; go_simp; try with_reducible rfl)
            simp only [Act.put, List.setIfInBounds_toArray, List.set_cons_zero, List.set_cons_succ]
            refine' wpAnyH_take (i := 13) (oi := { dst := some 228, op := Op.pick (Operand.tmp 221) (Operand.tmp 227) (Operand.const (Value.bool false)), type := 4, pos := "more.go:135", after := #[{ on := 6, ground := Ground.data }, { on := 12, ground := Ground.data }], guard := none }) (v := _) rfl (by kernel_rfl) (by kernel_rfl) (by kernel_rfl) (fun _ _ _ h => h) (Or.inl ⟨by rfl, ?hyZBy13⟩) hH2 ?rZBy13
            case hyZBy13 => (intro w' hSw; clear hSw; go_simp; try with_reducible rfl)
            simp only [Act.put, List.setIfInBounds_toArray, List.set_cons_zero, List.set_cons_succ]
            refine' wpAnyH_take (i := 14) (oi := { dst := some 12, op := Op.assign (Operand.tmp 228), type := 4, pos := "more.go:135", after := #[{ on := 13, ground := Ground.data }, { on := 8, ground := Ground.chain }, { on := 0, ground := Ground.phase }, { on := 1, ground := Ground.phase }, { on := 2, ground := Ground.phase }, { on := 3, ground := Ground.phase }, { on := 4, ground := Ground.phase }, { on := 5, ground := Ground.phase }, { on := 6, ground := Ground.phase }, { on := 7, ground := Ground.phase }, { on := 8, ground := Ground.phase }, { on := 9, ground := Ground.phase }, { on := 10, ground := Ground.phase }, { on := 11, ground := Ground.phase }, { on := 12, ground := Ground.phase }, { on := 13, ground := Ground.phase }], guard := none }) (v := _) rfl (by kernel_rfl) (by kernel_rfl) (by kernel_rfl) (fun _ _ _ h => h) (Or.inl ⟨by rfl, ?hyZBy14⟩) hH2 ?rZBy14
            case hyZBy14 => (intro w' hSw; clear hSw; go_simp; try with_reducible rfl)
            simp only [Act.put, List.setIfInBounds_toArray, List.set_cons_zero, List.set_cons_succ]
            refine wpAnyH_done (by kernel_rfl) ?_ _
            refine NoPanic.normal ?_
            go_wp2_with fail
            go_ret
            exact ⟨rfl, (hKh.trans hkl).trans hkm⟩
          · go_wp2_with fail
            refine hright.mono ?_
            rintro e wl ⟨⟨r, rfl, hri⟩, rfl⟩
            obtain rfl : r = false := by cases r; rfl; exact absurd (hri.1 rfl) hbad
            clear hri hright hbad
            have hnone : Calls Try.prog 28 #[.int .i64 0, .int .i64 P, .slice (some ⟨g, 0, none⟩) SZ capg] wl fun e w' => e = .returned (.tuple #[.pointer none, .int .i64 1]) ∧ w' = wl := load_none
            go_wp2_with fail
            refine hnone.mono ?_
            rintro e wm ⟨rfl, rfl⟩
            go_wp2_with fail
            go_ret
            exact ⟨rfl, hKh.trans hkl⟩
        · clear hin hin'
          have hload := load_any b1 b2 p1 p2 hdd (show Row _ (some ⟨g, 0, none⟩) (B * P * 68 + 2 * B) capg (tab (B * P * 68 + 2 * B) dd) by rw [HSZ.out]; exact hRh) hFh
          rw [HSZ.out] at hload
          go_wp2_with fail
          refine hload.mono ?_
          rintro e wl hl
          clear hload
          have HKl := hl.keep
          have hRl := hRh.keep HKl (fun _ _ _ e => e)
          have hright := right_any b2 p1 p2 hdd (show Row _ (some ⟨g, 0, none⟩) (B * P * 68 + 2 * B) capg (tab (B * P * 68 + 2 * B) dd) by rw [HSZ.out]; exact hRl)
          rw [HSZ.out] at hright
          rcases hl with ⟨p3, c3, k3, rfl, hgood, hm3, hp3, hc3, hk3, hkl⟩ | ⟨rfl, hbad, hkl⟩
          · obtain ⟨t, hmt, okt, hszt, himt⟩ := load_ok b1 b2 p1 p2 hdd wl p3 c3 k3 hgood hm3
            rw [HSZ.out] at hszt himt
            clear hm3 hp3 hc3 hk3
            go_wp2_with fail
            refine hright.mono ?_
            rintro e wl ⟨⟨r, rfl, hri⟩, rfl⟩
            obtain rfl : r = true := hri.2 hgood
            clear hri hright hgood
            go_wp2_with fail
            refine wp_region_noPanic ?_
            refine wp_region_held_drew (S := fun w' => Keep (fun _ => False) wl w') (by kernel_rfl) ((Keep.refl _ _).drew) (fun hH0 => ?_)
            refine' wpAnyH_take (i := 0) (oi := { dst := some 215, op := Op.move (Operand.tmp 14), type := 24, pos := "more.go:135", after := #[], guard := none }) (v := _) rfl (by kernel_rfl) (by kernel_rfl) (by kernel_rfl) (fun _ _ _ h => h) (Or.inl ⟨by rfl, ?hyZBz0⟩) hH0 ?rZBz0
            case hyZBz0 => (intro w' hSw; clear hSw; go_simp; try with_reducible rfl)
            simp only [Act.put, List.setIfInBounds_toArray, List.set_cons_zero, List.set_cons_succ]
            refine' wpAnyH_take (i := 1) (oi := { dst := some 216, op := Op.binOp BinOp.eql 24 (Operand.tmp 215) (Operand.const (Value.int IntKind.i64 0)) 24, type := 4, pos := "more.go:135", after := #[{ on := 0, ground := Ground.data }], guard := none }) (v := _) rfl (by kernel_rfl) (by kernel_rfl) (by kernel_rfl) (fun _ _ _ h => h) (Or.inl ⟨by rfl, ?hyZBz1⟩) hH0 ?rZBz1
            case hyZBz1 => (intro w' hSw; clear hSw; go_simp; try with_reducible rfl)
            simp only [Act.put, List.setIfInBounds_toArray, List.set_cons_zero, List.set_cons_succ]
            refine' wpAnyH_take (i := 2) (oi := { dst := some 217, op := Op.move (Operand.tmp 216), type := 4, pos := "more.go:135", after := #[{ on := 1, ground := Ground.data }], guard := none }) (v := _) rfl (by kernel_rfl) (by kernel_rfl) (by kernel_rfl) (fun _ _ _ h => h) (Or.inl ⟨by rfl, ?hyZBz2⟩) hH0 ?rZBz2
            case hyZBz2 => (intro w' hSw; clear hSw; go_simp; try with_reducible rfl)
            simp only [Act.put, List.setIfInBounds_toArray, List.set_cons_zero, List.set_cons_succ]
            refine' wpAnyH_take (i := 3) (oi := { dst := some 218, op := Op.move (Operand.tmp 18), type := 23, pos := "more.go:135", after := #[{ on := 2, ground := Ground.guard }], guard := some (2, true) }) (v := _) rfl (by kernel_rfl) (by kernel_rfl) (by kernel_rfl) (fun _ _ _ h => h) (Or.inl ⟨by rfl, ?hyZBz3⟩) hH0 ?rZBz3
            case hyZBz3 => (intro w' hSw; clear hSw; go_simp; try with_reducible rfl)
            simp only [Act.put, List.setIfInBounds_toArray, List.set_cons_zero, List.set_cons_succ]
            refine' wpAnyH_take (i := 4) (oi := { dst := some 219, op := Op.binOp BinOp.neq 23 (Operand.tmp 218) (Operand.const (Value.pointer none)) 23, type := 4, pos := "more.go:135", after := #[{ on := 3, ground := Ground.data }, { on := 2, ground := Ground.guard }], guard := some (2, true) }) (v := _) rfl (by kernel_rfl) (by kernel_rfl) (by kernel_rfl) (fun _ _ _ h => h) (Or.inl ⟨by rfl, ?hyZBz4⟩) hH0 ?rZBz4
            case hyZBz4 => (intro w' hSw; clear hSw; go_simp; try with_reducible rfl)
            simp only [Act.put, List.setIfInBounds_toArray, List.set_cons_zero, List.set_cons_succ]
            refine' wpAnyH_take (i := 5) (oi := { dst := some 220, op := Op.pick (Operand.tmp 217) (Operand.tmp 219) (Operand.const (Value.bool false)), type := 4, pos := "more.go:135", after := #[{ on := 2, ground := Ground.data }, { on := 4, ground := Ground.data }], guard := none }) (v := _) rfl (by kernel_rfl) (by kernel_rfl) (by kernel_rfl) (fun _ _ _ h => h) (Or.inl ⟨by rfl, ?hyZBz5⟩) hH0 ?rZBz5
            case hyZBz5 => (intro w' hSw; clear hSw; go_simp; try with_reducible rfl)
            simp only [Act.put, List.setIfInBounds_toArray, List.set_cons_zero, List.set_cons_succ]
            refine' wpAnyH_take (i := 6) (oi := { dst := some 221, op := Op.move (Operand.tmp 220), type := 4, pos := "more.go:135", after := #[{ on := 5, ground := Ground.data }, { on := 2, ground := Ground.chain }], guard := none }) (v := _) rfl (by kernel_rfl) (by kernel_rfl) (by kernel_rfl) (fun _ _ _ h => h) (Or.inl ⟨by rfl, ?hyZBz6⟩) hH0 ?rZBz6
            case hyZBz6 => (intro w' hSw; clear hSw; go_simp; try with_reducible rfl)
            simp only [Act.put, List.setIfInBounds_toArray, List.set_cons_zero, List.set_cons_succ]
            refine' wpAnyH_take (i := 7) (oi := { dst := some 222, op := Op.move (Operand.tmp 18), type := 23, pos := "more.go:135", after := #[{ on := 6, ground := Ground.guard }], guard := some (6, true) }) (v := _) rfl (by kernel_rfl) (by kernel_rfl) (by kernel_rfl) (fun _ _ _ h => h) (Or.inl ⟨by rfl, ?hyZBz7⟩) hH0 ?rZBz7
            case hyZBz7 => (intro w' hSw; clear hSw; go_simp; try with_reducible rfl)
            simp only [Act.put, List.setIfInBounds_toArray, List.set_cons_zero, List.set_cons_succ]
            refine' wpAnyH_take (i := 10) (oi := { dst := some 225, op := Op.move (Operand.tmp 16), type := 28, pos := "more.go:135", after := #[{ on := 6, ground := Ground.guard }], guard := some (6, true) }) (v := _) rfl (by kernel_rfl) (by kernel_rfl) (by kernel_rfl) (fun _ _ _ h => h) (Or.inl ⟨by rfl, ?hyZBz10⟩) hH0 ?rZBz10
            case hyZBz10 => (intro w' hSw; clear hSw; go_simp; try with_reducible rfl)
            simp only [Act.put, List.setIfInBounds_toArray, List.set_cons_zero, List.set_cons_succ]
            refine' wpAnyH_take (i := 11) (oi := { dst := some 226, op := Op.convert 28 9 (Operand.tmp 225), type := 9, pos := "more.go:135", after := #[{ on := 10, ground := Ground.data }, { on := 6, ground := Ground.guard }], guard := some (6, true) }) (v := .string (strOfNums (tab SZ dd))) rfl (by kernel_rfl) (by kernel_rfl) (by kernel_rfl) (fun _ _ _ h => h) (yields_conv (by rfl) 28 9 (.tmp 225) rfl (by rfl) (fun w' h => (hRl.keep h (fun _ _ _ e => e)).text)) hH0 ?rZBz11
            simp only [Act.put, List.setIfInBounds_toArray, List.set_cons_zero, List.set_cons_succ]
            refine wpAnyH_ready (rs := [8]) (by kernel_rfl) (by simp) ?_
            refine AllReadyH.cons (o := { dst := some 223, op := Op.call { callee := Callee.value (Operand.func 27), args := #[Operand.tmp 222], argTypes := #[23] }, type := 28, pos := "more.go:135", after := #[{ on := 7, ground := Ground.data }, { on := 6, ground := Ground.chain }, { on := 6, ground := Ground.guard }], guard := some (6, true) }) rfl (fun K hK => ?_) AllReadyH.nil
            refine step_call_want (vs := #[.pointer (some ⟨p3, 0, none⟩)]) (R := fun u w2 => ∃ g cap, u = Value.slice (some ⟨g, 0, none⟩) SZ cap ∧ Row w2 (some ⟨g, 0, none⟩) SZ cap (tab SZ dd) ∧ Keep (fun _ => False) wl w2) (by rfl) 27 #[Operand.tmp 222] #[23] rfl (by simp [Act.eval]) call27 ((image_any hmt.drew okt).mono (by rintro e w4 ⟨g, cap, rfl, _, hr, _, _, hk⟩; rw [himt, hszt] at hr; exact ⟨_, rfl, g, cap, by rw [hszt], hr, ((Keep.refl _ wl).drew).trans hk⟩)) ?_
            rintro u wm ⟨gm, capm, rfl, hrm, hkm⟩
            refine hK.out _ _ (hkm) (fun hH1 => ?_)
            clear hK K hH0
            simp only [Act.put, List.setIfInBounds_toArray, List.set_cons_zero, List.set_cons_succ]
            have htm := hrm.text
            refine wpAnyH_ready (rs := [9]) (by kernel_rfl) (by simp) ?_
            refine AllReadyH.cons (o := { dst := some 224, op := Op.convert 28 9 (Operand.tmp 223), type := 9, pos := "more.go:135", after := #[{ on := 8, ground := Ground.data }, { on := 6, ground := Ground.guard }], guard := some (6, true) }) rfl (fun K hK => ?_) AllReadyH.nil
            refine step_conv_run (by rfl) 28 9 (.tmp 223) rfl (by rfl) htm ?_
            refine hK.out _ _ (hkm) (fun hH2 => ?_)
            clear hK K hH1
            simp only [Act.put, List.setIfInBounds_toArray, List.set_cons_zero, List.set_cons_succ]
            refine' wpAnyH_take (i := 12) (oi := { dst := some 227, op := Op.binOp BinOp.eql 9 (Operand.tmp 224) (Operand.tmp 226) 9, type := 4, pos := "more.go:135", after := #[{ on := 9, ground := Ground.data }, { on := 11, ground := Ground.data }, { on := 6, ground := Ground.guard }], guard := some (6, true) }) (v := _) rfl (by kernel_rfl) (by kernel_rfl) (by kernel_rfl) (fun _ _ _ h => h) (Or.inl ⟨by rfl, ?hyZBz12⟩) hH2 ?rZBz12
            case hyZBz12 => (intro w' hSw; clear hSw; go_simp; try with_reducible rfl)
            simp only [Act.put, List.setIfInBounds_toArray, List.set_cons_zero, List.set_cons_succ]
            refine' wpAnyH_take (i := 13) (oi := { dst := some 228, op := Op.pick (Operand.tmp 221) (Operand.tmp 227) (Operand.const (Value.bool false)), type := 4, pos := "more.go:135", after := #[{ on := 6, ground := Ground.data }, { on := 12, ground := Ground.data }], guard := none }) (v := _) rfl (by kernel_rfl) (by kernel_rfl) (by kernel_rfl) (fun _ _ _ h => h) (Or.inl ⟨by rfl, ?hyZBz13⟩) hH2 ?rZBz13
            case hyZBz13 => (intro w' hSw; clear hSw; go_simp; try with_reducible rfl)
            simp only [Act.put, List.setIfInBounds_toArray, List.set_cons_zero, List.set_cons_succ]
            refine' wpAnyH_take (i := 14) (oi := { dst := some 12, op := Op.assign (Operand.tmp 228), type := 4, pos := "more.go:135", after := #[{ on := 13, ground := Ground.data }, { on := 8, ground := Ground.chain }, { on := 0, ground := Ground.phase }, { on := 1, ground := Ground.phase }, { on := 2, ground := Ground.phase }, { on := 3, ground := Ground.phase }, { on := 4, ground := Ground.phase }, { on := 5, ground := Ground.phase }, { on := 6, ground := Ground.phase }, { on := 7, ground := Ground.phase }, { on := 8, ground := Ground.phase }, { on := 9, ground := Ground.phase }, { on := 10, ground := Ground.phase }, { on := 11, ground := Ground.phase }, { on := 12, ground := Ground.phase }, { on := 13, ground := Ground.phase }], guard := none }) (v := _) rfl (by kernel_rfl) (by kernel_rfl) (by kernel_rfl) (fun _ _ _ h => h) (Or.inl ⟨by rfl, ?hyZBz14⟩) hH2 ?rZBz14
            case hyZBz14 => (intro w' hSw; clear hSw; go_simp; try with_reducible rfl)
            simp only [Act.put, List.setIfInBounds_toArray, List.set_cons_zero, List.set_cons_succ]
            refine wpAnyH_done (by kernel_rfl) ?_ _
            refine NoPanic.normal ?_
            go_wp2_with fail
            go_ret
            exact ⟨rfl, (hKh.trans hkl).trans hkm⟩
          · go_wp2_with fail
            refine hright.mono ?_
            rintro e wl ⟨⟨r, rfl, hri⟩, rfl⟩
            obtain rfl : r = false := by cases r; rfl; exact absurd (hri.1 rfl) hbad
            clear hri hright hbad
            have hnone : Calls Try.prog 28 #[.int .i64 0, .int .i64 P, .slice (some ⟨g, 0, none⟩) SZ capg] wl fun e w' => e = .returned (.tuple #[.pointer none, .int .i64 1]) ∧ w' = wl := load_none
            go_wp2_with fail
            refine hnone.mono ?_
            rintro e wm ⟨rfl, rfl⟩
            go_wp2_with fail
            go_ret
            exact ⟨rfl, hKh.trans hkl⟩
end Nd
end Go.Proofs.Ytjafjofonckaaaa
