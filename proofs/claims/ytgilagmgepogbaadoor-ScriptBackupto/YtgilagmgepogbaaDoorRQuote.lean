/-
  The document's own hex, Piece and Quote over any memory.
-/
import Derived.Test.YtgilagmgepogbaaDoorSteps
namespace Go.Proofs.YtgilagmgepogbaaDoor
open Go.ChangeShapes Go.WideShapes Go.ChangeAt Go.RowKit
namespace Tg
open Qm

set_option maxHeartbeats 1000000 in
set_option maxRecDepth 100000 in
theorem hex_any : ∀ (n v : Nat) (w : World), n ≤ 4 → v < 1114112 → Calls Tryd.prog 46 #[.int .i64 (v : Int), .int .i64 (n : Int)] w fun e w' => e = .returned (.string (str (hexs v n))) ∧ Keep (fun _ => False) w w'
  | 0, v, w, _, _ => by
    go_enter Tryd.func46, Tryd.ntmps46
    go_wp2
    go_ret
    exact ⟨rfl, Keep.refl _ _⟩
  | n + 1, v, w, hn, hv => by
    have ih := fun W => hex_any n (v / 16) W (by omega) (by omega)
    have hs : str (hexs v (n + 1)) = str (hexs (v / 16) n) ++ str [hexd (v % 16)] := by rw [str_append]; rfl
    have ht := digit_text (v % 16) (Nat.mod_lt _ (by decide))
    rw [hs, ← ht]
    clear hs ht
    have n0 : ((((n + 1 : Nat) : Int)) == 0) = false := by rw [beq_eq_false_iff_ne]; omega
    have n1 : ¬ ((n + 1 : Nat) : Int) = 0 := by omega
    have n2 : IntKind.i64.wrap (((n + 1 : Nat) : Int) - 1) = (n : Int) := by rw [IntKind.wrap_i64]; omega
    have q : Int.tdiv (v : Int) 16 = ((v / 16 : Nat) : Int) := by rw [Int.tdiv_eq_ediv_of_nonneg (by omega)]; omega
    have r : Int.tmod (v : Int) 16 = ((v % 16 : Nat) : Int) := by rw [Int.tmod_eq_emod_of_nonneg (by omega)]; omega
    have r2 : IntKind.i64.wrap (((v % 16 : Nat) : Int) + 1) = ((v % 16 : Nat) : Int) + 1 := by rw [IntKind.wrap_i64]; omega
    have r1 : ((v % 16 : Nat) : Int) ≤ 15 := by omega
    have q1 : v / 16 < 1114112 := by omega
    generalize v / 16 = u at *
    generalize v % 16 = d at *
    generalize ((n + 1 : Nat) : Int) = nn at *
    have q2 : IntKind.i64.wrap (u : Int) = (u : Int) := by rw [IntKind.wrap_i64]; omega
    have hcc : ¬ (9223372036854775807 < (str (hexs u n)).size + (min (d + 1) 16 - d)) := by rw [str_size, hexs_len]; omega
    have hsl : ∀ W : World, (Instr.slice 9 (.string ⟨#[48, 49, 50, 51, 52, 53, 54, 55, 56, 57, 97, 98, 99, 100, 101, 102]⟩) (some (.int .i64 (d : Int))) (some (.int .i64 ((d : Int) + 1))) none).run Tryd.prog W = .ok (.string ((ByteArray.mk #[48, 49, 50, 51, 52, 53, 54, 55, 56, 57, 97, 98, 99, 100, 101, 102]).extract d (d + 1))) W := fun W => by
      have h := run_slice_string (P := Tryd.prog) W 9 ⟨#[48, 49, 50, 51, 52, 53, 54, 55, 56, 57, 97, 98, 99, 100, 101, 102]⟩ .i64 .i64 (d : Int) ((d : Int) + 1) Tryd.underlying9 (by omega) (by omega) (by show (d : Int) + 1 ≤ 16; omega)
      rw [h]
      congr 3
    go_enter Tryd.func46, Tryd.ntmps46
    go_wp2_with fail
    refine wp_region_noPanic ?_
    refine wp_region_held_drew (S := fun w' => Keep (fun _ => False) w w') (by kernel_rfl) ((Keep.refl _ _).drew) (fun hH0 => ?_)
    refine' wpAnyH_take (i := 0) (oi := { dst := some 7, op := Op.move (Operand.tmp 0), type := 3, pos := "ref.go:49", after := #[], guard := none }) (v := _) rfl (by kernel_rfl) (by kernel_rfl) (by kernel_rfl) (fun _ _ _ h => h) (Or.inl ⟨by rfl, ?hy0⟩) hH0 ?r0
    case hy0 => (intro w' hSw; clear hSw; go_simp; try with_reducible rfl)
    simp only [Act.put, List.setIfInBounds_toArray, List.set_cons_zero, List.set_cons_succ]
    refine' wpAnyH_take (i := 1) (oi := { dst := some 8, op := Op.binOp BinOp.quo 3 (Operand.tmp 7) (Operand.const (Value.int IntKind.i64 16)) 3, type := 3, pos := "ref.go:49", after := #[{ on := 0, ground := Ground.data }], guard := none }) (v := _) rfl (by kernel_rfl) (by kernel_rfl) (by kernel_rfl) (fun _ _ _ h => h) (Or.inl ⟨by rfl, ?hy1⟩) hH0 ?r1
    case hy1 => (intro w' hSw; clear hSw; go_simp; try with_reducible rfl)
    simp only [Act.put, List.setIfInBounds_toArray, List.set_cons_zero, List.set_cons_succ]
    refine' wpAnyH_take (i := 2) (oi := { dst := some 9, op := Op.move (Operand.tmp 1), type := 3, pos := "ref.go:49", after := #[], guard := none }) (v := _) rfl (by kernel_rfl) (by kernel_rfl) (by kernel_rfl) (fun _ _ _ h => h) (Or.inl ⟨by rfl, ?hy2⟩) hH0 ?r2
    case hy2 => (intro w' hSw; clear hSw; go_simp; try with_reducible rfl)
    simp only [Act.put, List.setIfInBounds_toArray, List.set_cons_zero, List.set_cons_succ]
    refine' wpAnyH_take (i := 3) (oi := { dst := some 10, op := Op.binOp BinOp.sub 3 (Operand.tmp 9) (Operand.const (Value.int IntKind.i64 1)) 3, type := 3, pos := "ref.go:49", after := #[{ on := 2, ground := Ground.data }], guard := none }) (v := _) rfl (by kernel_rfl) (by kernel_rfl) (by kernel_rfl) (fun _ _ _ h => h) (Or.inl ⟨by rfl, ?hy3⟩) hH0 ?r3
    case hy3 => (intro w' hSw; clear hSw; go_simp; try with_reducible rfl)
    simp only [Act.put, List.setIfInBounds_toArray, List.set_cons_zero, List.set_cons_succ]
    refine' wpAnyH_take (i := 5) (oi := { dst := some 12, op := Op.move (Operand.tmp 0), type := 3, pos := "ref.go:49", after := #[], guard := none }) (v := _) rfl (by kernel_rfl) (by kernel_rfl) (by kernel_rfl) (fun _ _ _ h => h) (Or.inl ⟨by rfl, ?hy5⟩) hH0 ?r5
    case hy5 => (intro w' hSw; clear hSw; go_simp; try with_reducible rfl)
    simp only [Act.put, List.setIfInBounds_toArray, List.set_cons_zero, List.set_cons_succ]
    refine' wpAnyH_take (i := 6) (oi := { dst := some 13, op := Op.binOp BinOp.rem 3 (Operand.tmp 12) (Operand.const (Value.int IntKind.i64 16)) 3, type := 3, pos := "ref.go:49", after := #[{ on := 5, ground := Ground.data }], guard := none }) (v := _) rfl (by kernel_rfl) (by kernel_rfl) (by kernel_rfl) (fun _ _ _ h => h) (Or.inl ⟨by rfl, ?hy6⟩) hH0 ?r6
    case hy6 => (intro w' hSw; clear hSw; go_simp; try with_reducible rfl)
    simp only [Act.put, List.setIfInBounds_toArray, List.set_cons_zero, List.set_cons_succ]
    refine' wpAnyH_take (i := 7) (oi := { dst := some 14, op := Op.move (Operand.tmp 0), type := 3, pos := "ref.go:49", after := #[], guard := none }) (v := _) rfl (by kernel_rfl) (by kernel_rfl) (by kernel_rfl) (fun _ _ _ h => h) (Or.inl ⟨by rfl, ?hy7⟩) hH0 ?r7
    case hy7 => (intro w' hSw; clear hSw; go_simp; try with_reducible rfl)
    simp only [Act.put, List.setIfInBounds_toArray, List.set_cons_zero, List.set_cons_succ]
    refine' wpAnyH_take (i := 8) (oi := { dst := some 15, op := Op.binOp BinOp.rem 3 (Operand.tmp 14) (Operand.const (Value.int IntKind.i64 16)) 3, type := 3, pos := "ref.go:49", after := #[{ on := 7, ground := Ground.data }], guard := none }) (v := _) rfl (by kernel_rfl) (by kernel_rfl) (by kernel_rfl) (fun _ _ _ h => h) (Or.inl ⟨by rfl, ?hy8⟩) hH0 ?r8
    case hy8 => (intro w' hSw; clear hSw; go_simp; try with_reducible rfl)
    simp only [Act.put, List.setIfInBounds_toArray, List.set_cons_zero, List.set_cons_succ]
    refine' wpAnyH_take (i := 9) (oi := { dst := some 16, op := Op.binOp BinOp.add 3 (Operand.tmp 15) (Operand.const (Value.int IntKind.i64 1)) 3, type := 3, pos := "ref.go:49", after := #[{ on := 8, ground := Ground.data }], guard := none }) (v := _) rfl (by kernel_rfl) (by kernel_rfl) (by kernel_rfl) (fun _ _ _ h => h) (Or.inl ⟨by rfl, ?hy9⟩) hH0 ?r9
    case hy9 => (intro w' hSw; clear hSw; go_simp; try with_reducible rfl)
    simp only [Act.put, List.setIfInBounds_toArray, List.set_cons_zero, List.set_cons_succ]
    refine' wpAnyH_take (i := 10) (oi := { dst := some 17, op := Op.slice 9 (Operand.const (Value.string { data := #[48, 49, 50, 51, 52, 53, 54, 55, 56, 57, 97, 98, 99, 100, 101, 102] })) (some (Operand.tmp 13)) (some (Operand.tmp 16)) none, type := 9, pos := "ref.go:49", after := #[{ on := 6, ground := Ground.data }, { on := 9, ground := Ground.data }], guard := none }) (v := _) rfl (by kernel_rfl) (by kernel_rfl) (by kernel_rfl) (fun _ _ _ h => h) (Or.inl ⟨by rfl, ?hy10⟩) hH0 ?r10
    case hy10 => (intro w' hSw; clear hSw; go_simp; try with_reducible rfl)
    simp only [Act.put, List.setIfInBounds_toArray, List.set_cons_zero, List.set_cons_succ]
    refine wpAnyH_ready (rs := [4]) (by kernel_rfl) (by simp) ?_
    refine AllReadyH.cons (o := { dst := some 11, op := Op.call { callee := Callee.value (Operand.func 46), args := #[Operand.tmp 8, Operand.tmp 10], argTypes := #[3, 3] }, type := 9, pos := "ref.go:49", after := #[{ on := 1, ground := Ground.data }, { on := 3, ground := Ground.data }], guard := none }) rfl (fun K hK => ?_) AllReadyH.nil
    refine step_call_want (vs := #[.int .i64 (u : Int), .int .i64 (n : Int)]) (R := fun u2 w2 => u2 = .string (str (hexs u n)) ∧ Keep (fun _ => False) w w2) (by rfl) 46 #[Operand.tmp 8, Operand.tmp 10] #[3, 3] rfl (by simp [Act.eval]) call31 (post_keep (ih _) ((Keep.refl _ w).drew)) ?_
    rintro u w2 ⟨rfl, hk⟩
    refine hK.out _ _ (hk) (fun hH1 => ?_)
    clear hK K hH0
    simp only [Act.put, List.setIfInBounds_toArray, List.set_cons_zero, List.set_cons_succ]
    refine' wpAnyH_take (i := 11) (oi := { dst := some 18, op := Op.binOp BinOp.add 9 (Operand.tmp 11) (Operand.tmp 17) 9, type := 9, pos := "ref.go:49", after := #[{ on := 4, ground := Ground.data }, { on := 10, ground := Ground.data }], guard := none }) (v := _) rfl (by kernel_rfl) (by kernel_rfl) (by kernel_rfl) (fun _ _ _ h => h) (Or.inl ⟨by rfl, ?hy11⟩) hH1 ?r11
    case hy11 => (intro w' hSw; clear hSw; go_simp; try with_reducible rfl)
    simp only [Act.put, List.setIfInBounds_toArray, List.set_cons_zero, List.set_cons_succ]
    refine' wpAnyH_take (i := 12) (oi := { dst := some 4, op := Op.assign (Operand.tmp 18), type := 9, pos := "ref.go:49", after := #[{ on := 11, ground := Ground.data }, { on := 4, ground := Ground.chain }, { on := 0, ground := Ground.phase }, { on := 1, ground := Ground.phase }, { on := 2, ground := Ground.phase }, { on := 3, ground := Ground.phase }, { on := 4, ground := Ground.phase }, { on := 5, ground := Ground.phase }, { on := 6, ground := Ground.phase }, { on := 7, ground := Ground.phase }, { on := 8, ground := Ground.phase }, { on := 9, ground := Ground.phase }, { on := 10, ground := Ground.phase }, { on := 11, ground := Ground.phase }], guard := none }) (v := _) rfl (by kernel_rfl) (by kernel_rfl) (by kernel_rfl) (fun _ _ _ h => h) (Or.inl ⟨by rfl, ?hy12⟩) hH1 ?r12
    case hy12 => (intro w' hSw; clear hSw; go_simp; try with_reducible rfl)
    simp only [Act.put, List.setIfInBounds_toArray, List.set_cons_zero, List.set_cons_succ]
    refine wpAnyH_done (by kernel_rfl) ?_ _
    refine NoPanic.normal ?_
    go_wp2_with fail
    go_ret
    exact ⟨rfl, hk⟩

set_option maxRecDepth 100000 in
theorem app_x (l : List Nat) : (ByteArray.mk #[92, 120]) ++ str l = str ([92, 120] ++ l) := by rw [← str_append]; rfl
set_option maxRecDepth 100000 in
theorem app_u (l : List Nat) : (ByteArray.mk #[92, 117]) ++ str l = str ([92, 117] ++ l) := by rw [← str_append]; rfl

set_option maxHeartbeats 2000000 in
set_option maxRecDepth 100000 in
/-- Piece. -/
theorem piece_any (s : ByteArray) (h0 : s.size ≠ 0) (hs : s.size ≤ 9223372036854775807) (w : World) :
    Calls Tryd.prog 39 #[.string s] w fun e w' => e = .returned (.tuple #[.string (str (piece (bs s)).1), .int .i64 ((piece (bs s)).2 : Nat)]) ∧ Keep (fun _ => False) w w' := by
  have hru := rrune_any s hs w
  have hl : 0 < s.size := by omega
  by_cases hz : (rune (bs s)).2 = 0
  · have hp : piece (bs s) = ([92, 120] ++ hexs ((s[0]'hl).toNat) 2, 1) := by
      unfold piece
      rw [if_pos hz]
      have : (bs s).headD 0 = (bs s).getD 0 0 := by cases bs s <;> rfl
      rw [this, ← bs_at hl, hexs2]
      rfl
    rw [hp]
    rw [hz] at hru
    have hbt : (s[0]'hl).toNat < 256 := by rw [bs_at hl]; exact bs_lt s 0
    have hwr : wrap64 ((s[0]'hl).toNat : Int) = ((s[0]'hl).toNat : Int) := by unfold wrap64; omega
    have hx := hex_any 2 ((s[0]'hl).toNat) w (by omega) (by omega)
    have hcc : ¬ (9223372036854775807 < 2 + (str (hexs ((s[0]'hl).toNat) 2)).size) := by rw [str_size, hexs_len]; omega
    have ha := app_x (hexs ((s[0]'hl).toNat) 2)
    have hl' : (0 : Int) < s.size := by omega
    generalize (rune (bs s)).1 = v at *
    clear hp hz hbt
    go_enter Tryd.func39, Tryd.ntmps39
    go_wp2_with fail
    refine hru.mono ?_
    rintro e w0 ⟨rfl, rfl⟩
    go_wp2_with fail
    refine hx.mono ?_
    rintro e w1 ⟨rfl, hk⟩
    go_wp2_with fail
    go_ret2
    exact ⟨rfl, hk⟩
  have hp : piece (bs s) = (tell (rune (bs s)).1, (rune (bs s)).2) := by unfold piece; rw [if_neg hz]
  obtain ⟨hv, r, hr, hn⟩ := enc_rune hz
  have hrl := rune_len (l := bs s)
  rw [bs_len] at hrl
  have hfour := rune_four (l := bs s)
  have hex : s.extract 0 (rune (bs s)).2 = str (enc (rune (bs s)).1) := by
    rw [← str_bs (s.extract 0 (rune (bs s)).2), bs_take, take_enc hr hn]
  rw [hp]
  have hz' : ((((rune (bs s)).2 : Nat) : Int) == 0) = false := by rw [beq_eq_false_iff_ne]; omega
  have hz'' : ¬ (((rune (bs s)).2 : Nat) : Int) = 0 := by omega
  have hrl' : (((rune (bs s)).2 : Nat) : Int) ≤ s.size := by omega
  have hone : (rune (bs s)).1 < 128 → (rune (bs s)).2 = 1 := fun h => by rw [hn]; unfold enc; rw [if_pos h]; rfl
  clear hp hr hn hrl hz
  generalize (rune (bs s)).1 = v at *
  generalize (rune (bs s)).2 = n at *
  have hvb : v < 1114112 := by unfold valid at hv; omega
  by_cases h34 : v = 34
  · subst h34
    obtain rfl := hone (by omega)
    rw [show tell 34 = [92, 34] from rfl]
    clear hone hex hfour
    go_enter Tryd.func39, Tryd.ntmps39
    go_wp2_with fail
    refine hru.mono ?_
    rintro e w0 ⟨rfl, rfl⟩
    go_wp2_with fail
    go_ret2
    exact ⟨rfl, Keep.refl _ _⟩
  have i34 : ((v : Int) == 34) = false := by rw [beq_eq_false_iff_ne]; omega
  have j34 : ¬ (v : Int) = 34 := by omega
  by_cases h92 : v = 92
  · subst h92
    obtain rfl := hone (by omega)
    rw [show tell 92 = [92, 92] from rfl]
    clear hone hex hfour
    go_enter Tryd.func39, Tryd.ntmps39
    go_wp2_with fail
    refine hru.mono ?_
    rintro e w0 ⟨rfl, rfl⟩
    go_wp2_with fail
    go_ret2
    exact ⟨rfl, Keep.refl _ _⟩
  have i92 : ((v : Int) == 92) = false := by rw [beq_eq_false_iff_ne]; omega
  have j92 : ¬ (v : Int) = 92 := by omega
  by_cases h10 : v = 10
  · subst h10
    obtain rfl := hone (by omega)
    rw [show tell 10 = [92, 110] from rfl]
    clear hone hex hfour
    go_enter Tryd.func39, Tryd.ntmps39
    go_wp2_with fail
    refine hru.mono ?_
    rintro e w0 ⟨rfl, rfl⟩
    go_wp2_with fail
    go_ret2
    exact ⟨rfl, Keep.refl _ _⟩
  have i10 : ((v : Int) == 10) = false := by rw [beq_eq_false_iff_ne]; omega
  have j10 : ¬ (v : Int) = 10 := by omega
  by_cases h9 : v = 9
  · subst h9
    obtain rfl := hone (by omega)
    rw [show tell 9 = [92, 116] from rfl]
    clear hone hex hfour
    go_enter Tryd.func39, Tryd.ntmps39
    go_wp2_with fail
    refine hru.mono ?_
    rintro e w0 ⟨rfl, rfl⟩
    go_wp2_with fail
    go_ret2
    exact ⟨rfl, Keep.refl _ _⟩
  have i9 : ((v : Int) == 9) = false := by rw [beq_eq_false_iff_ne]; omega
  have j9 : ¬ (v : Int) = 9 := by omega
  by_cases h0' : v = 0
  · subst h0'
    obtain rfl := hone (by omega)
    rw [show tell 0 = [92, 48] from rfl]
    clear hone hex hfour
    go_enter Tryd.func39, Tryd.ntmps39
    go_wp2_with fail
    refine hru.mono ?_
    rintro e w0 ⟨rfl, rfl⟩
    go_wp2_with fail
    go_ret2
    exact ⟨rfl, Keep.refl _ _⟩
  have i0 : ((v : Int) == 0) = false := by rw [beq_eq_false_iff_ne]; omega
  have j0 : ¬ (v : Int) = 0 := by omega
  have ht : tell v = if v < 32 ∨ v = 127 then [92, 120] ++ hex2 v else if isU v then [92, 117] ++ hex4 v else enc v := by
    unfold tell
    rw [if_neg h34, if_neg h92, if_neg h10, if_neg h9, if_neg h0']
  rw [ht]
  clear ht
  by_cases h6 : v < 32 ∨ v = 127
  · rw [if_pos h6, ← hexs2]
    obtain rfl := hone (by omega)
    have hx := hex_any 2 v w (by omega) hvb
    have hcc : ¬ (9223372036854775807 < 2 + (str (hexs v 2)).size) := by rw [str_size, hexs_len]; omega
    have ha := app_x (hexs v 2)
    have k1 : (v : Int) < 32 ∨ (¬ (v : Int) < 32 ∧ ((v : Int) == 127) = true) := by
      by_cases h7 : v < 32
      · exact Or.inl (by omega)
      · exact Or.inr ⟨by omega, by rw [beq_iff_eq]; omega⟩
    clear hone hex hfour h6 h34 h92 h10 h9 h0' hvb
    rcases k1 with k1 | ⟨k1, k2⟩
    all_goals
      go_enter Tryd.func39, Tryd.ntmps39
      go_wp2_with fail
      refine hru.mono ?_
      rintro e w0 ⟨rfl, rfl⟩
      go_wp2_with fail
      refine hx.mono ?_
      rintro e w1 ⟨rfl, hk⟩
      go_wp2_with fail
      go_ret2
      exact ⟨rfl, hk⟩
  rw [if_neg h6]
  have k1 : ¬ (v : Int) < 32 := by omega
  have k2 : ((v : Int) == 127) = false := by rw [beq_eq_false_iff_ne]; omega
  have k3 : ¬ (v : Int) = 127 := by omega
  by_cases h7 : isU v
  · rw [if_pos h7, ← hexs4]
    have hx := hex_any 4 v w (by omega) hvb
    have hcc : ¬ (9223372036854775807 < 2 + (str (hexs v 4)).size) := by rw [str_size, hexs_len]; omega
    have ha := app_u (hexs v 4)
    unfold isU at h7
    by_cases h8 : v < 160
    · have m1 : (128 : Int) ≤ v := by omega
      have m2 : (v : Int) < 160 := by omega
      clear hone hex hfour h6 h34 h92 h10 h9 h0' hvb h7 h8
      go_enter Tryd.func39, Tryd.ntmps39
      go_wp2_with fail
      refine hru.mono ?_
      rintro e w0 ⟨rfl, rfl⟩
      go_wp2_with fail
      refine hx.mono ?_
      rintro e w1 ⟨rfl, hk⟩
      go_wp2_with fail
      go_ret2
      exact ⟨rfl, hk⟩
    · have h9' : v = 8232 ∨ v = 8233 ∨ v = 65279 := by omega
      clear hone hex hfour h6 h34 h92 h10 h9 h0' hvb h7 h8
      rcases h9' with rfl | rfl | rfl
      all_goals
        go_enter Tryd.func39, Tryd.ntmps39
        go_wp2_with fail
        refine hru.mono ?_
        rintro e w0 ⟨rfl, rfl⟩
        go_wp2_with fail
        refine hx.mono ?_
        rintro e w1 ⟨rfl, hk⟩
        go_wp2_with fail
        go_ret2
        exact ⟨rfl, hk⟩
  rw [if_neg h7, ← hex]
  unfold isU at h7
  have l1 : ((v : Int) == 8232) = false := by rw [beq_eq_false_iff_ne]; omega
  have l2 : ((v : Int) == 8233) = false := by rw [beq_eq_false_iff_ne]; omega
  have l3 : ((v : Int) == 65279) = false := by rw [beq_eq_false_iff_ne]; omega
  have l4 : ¬ (v : Int) = 8232 := by omega
  have l5 : ¬ (v : Int) = 8233 := by omega
  have l6 : ¬ (v : Int) = 65279 := by omega
  have m1 : ¬ (128 : Int) ≤ v ∨ ((128 : Int) ≤ v ∧ ¬ (v : Int) < 160) := by omega
  clear hone hex hfour h6 h34 h92 h10 h9 h0' hvb h7 hv
  rcases m1 with m1 | ⟨m1, m2⟩
  all_goals
    go_enter Tryd.func39, Tryd.ntmps39
    go_wp2_with fail
    refine hru.mono ?_
    rintro e w0 ⟨rfl, rfl⟩
    go_wp2_with fail
    go_ret2
    exact ⟨rfl, Keep.refl _ _⟩

/-- A row of one's own, made since w. -/
structure Og (w wr : World) (g cap : Nat) (m : List Nat) : Prop where
  own : Ow wr g cap m
  keep : Keep (fun _ => False) w wr
  new : w.heap.size ≤ g
set_option maxRecDepth 100000 in
theorem Og.up {w wr w' : World} {g cap g' cap' : Nat} {m l' : List Nat} (h : Og w wr g cap m) (u : Up wr w' g g' cap' l') : Og w w' g' cap' l' := by
  have h3 := h.new; have h4 := u.new; have h5 := h.keep.size
  refine ⟨u.own, ?_, by omega⟩
  exact ⟨u.keep.os.trans h.keep.os, u.keep.tape.trans h.keep.tape, u.keep.output.trans h.keep.output, Nat.le_trans h.keep.size u.keep.size, fun i hi _ => by
    rw [u.keep.block i (by omega) (by omega)]; exact h.keep.block i hi (fun e => e)⟩
set_option maxRecDepth 100000 in
theorem Og.more {w wr w' : World} {g cap : Nat} {m : List Nat} (h : Og w wr g cap m) (u : Keep (fun _ => False) wr w') : Og w w' g cap m :=
  ⟨h.own.keep u (fun e => e), h.keep.trans u, h.new⟩
set_option maxRecDepth 100000 in
theorem og_new (w : World) (l : List Nat) (hb : ∀ x ∈ l, x < 256) (hl : l.length ≤ 9223372036854775807) : Og w (w.alloc (.cells (l.map (fun n : Nat => Value.int .u8 (n : Int))).toArray 5)) w.heap.size l.length l := by
  have e : (l.map (fun n : Nat => Value.int .u8 (n : Int))) = (ints l).map (Value.int .u8) := by simp [ints]
  rw [e]
  have hr := row_new w (ints l) (0, 0) w.heap.size l.length rfl (by rw [ints_len]; exact Nat.le_refl _) hl (ints_byte hb)
  rw [ints_len] at hr
  have hh := heap_alloc_new w (.cells ((ints l).map (Value.int .u8)).toArray 5)
  refine ⟨⟨hr, fun i hi => ⟨?_, ?_⟩⟩, (Keep.refl _ _).alloc _, Nat.le_refl _⟩
  · rw [hr.cellAt hi]; rfl
  · simp only [World.frozen?, hh]; simp

set_option maxHeartbeats 2000000 in
set_option maxRecDepth 100000 in
/-- The document's own Quote. -/
theorem rquote_any (s : ByteArray) (hs : s.size ≤ 35184372088000) (w : World) : Calls Tryd.prog 27 #[.string s] w fun e w' => e = .returned (.string (str (told (bs s)))) ∧ Keep (fun _ => False) w w' := by
  have hO : Og w (w.alloc (.cells #[.int .u8 34] 5)) w.heap.size 1 [34] := og_new w [34] (by decide) (by decide)
  have HT : Hid (told (bs s) = [34] ++ body (bs s) ++ [34]) := by show _ = _; rfl
  go_enter Tryd.func27, Tryd.ntmps27
  go_wp2_with fail
  go_loopw [0, 3] (fun x b wr => ∃ (t : ByteArray) (g' cap' : Nat) (m : List Nat), x = .string t ∧ b = .slice (some ⟨g', 0, none⟩) m.length cap' ∧ Og w wr g' cap' m ∧ told (bs s) = m ++ body (bs t) ++ [34] ∧ m.length + 4 * t.size ≤ 4 * s.size + 1) (fun x _ _ => match x with | .string t => t.size | _ => 0)
  case atStart => exact ⟨s, w.heap.size, 1, [34], rfl, rfl, hO, HT.out, by simp; omega⟩
  case round =>
    clear hO HT
    obtain ⟨t, g', cap', m, rfl, rfl, hO, hm, hml⟩ := hrel
    by_cases h0 : t.size = 0
    · have hb : bs t = [] := List.eq_nil_of_length_eq_zero (by rw [bs_len]; exact h0)
      rw [hb, body_nil, List.append_nil] at hm
      obtain ⟨g3, cap3, w3, hrun3, hU3⟩ := hO.own.put1 (x := 34) (X := 34) (by omega) rfl (by omega)
      rw [← hm] at hU3
      have hO3 := hO.up hU3
      have ht := hO3.own.text
      rw [hm, List.length_append, List.length_singleton] at ht
      have HM : Hid (told (bs s) = m ++ [34]) := hm
      clear hm hb hml
      go_wp2_with (at_builtin; refine wpList_append_run rfl (.tmp 21) (.tmp 22) 67 rfl (by rfl) (by rfl) hrun3 ?_)
      go_ret
      exact ⟨by rw [HM.out]; rfl, hO3.keep⟩
    · have hp0 : (0 : Int) < t.size := by omega
      have hne : bs t ≠ [] := fun e => h0 (by have := bs_len t; rw [e] at this; simpa using this.symm)
      have hpc := piece_any t h0 (by omega) wr
      have hpp := piece_pos hne
      rw [bs_len] at hpp
      have hpl := piece_len (l := bs t)
      have hpb : ∀ x ∈ (piece (bs t)).1, x < 256 := fun x hx => told_byte (bs t) x (by simp [told, body_cons hne, hx])
      rw [body_cons hne, ← bs_drop, ← List.append_assoc] at hm
      generalize (piece (bs t)).1 = p at *
      generalize (piece (bs t)).2 = n at *
      have i1 : (n : Int) ≤ t.size := by omega
      have HM : Hid (told (bs s) = m ++ p ++ body (bs (t.extract n t.size)) ++ [34]) := hm
      have HP : Hid (1 ≤ n ∧ n ≤ t.size ∧ p.length ≤ 4 * n ∧ m.length + 4 * t.size ≤ 4 * s.size + 1) := ⟨hpp.1, hpp.2, hpl, hml⟩
      clear hm hpp hpl hne h0 hml
      go_wp2_with fail
      refine hpc.mono ?_
      rintro e w1 ⟨rfl, hk⟩
      have hO1 := hO.more hk
      obtain ⟨g3, cap3, w3, hrun3, hU3⟩ := hO1.own.puts p hpb (by have := HP.out; omega)
      have hO3 := hO1.up hU3
      go_wp2_with (at_builtin; refine wpList_append_text rfl (.tmp 15) (.tmp 16) 67 9 rfl (by rfl) (by rfl) hrun3 ?_)
      refine ⟨⟨t.extract n t.size, g3, cap3, m ++ p, rfl, by rw [List.length_append], hO3, HM.out, ?_⟩, ?_⟩
      · have := HP.out; simp; omega
      · have := HP.out; simp; omega
end Tg
end Go.Proofs.YtgilagmgepogbaaDoor
