/-
  The document's own telling of commands: Num and Text over any memory.
-/
import Derived.Test.YtgilagmgepogbaaDoorRb
import Derived.Test.YtgilagmgepogbaaDoorLb
import Derived.Deep.RegionHeld3
set_option linter.unusedVariables false
namespace Go.Proofs.YtgilagmgepogbaaDoor
open Go.ChangeShapes Go.WideShapes Go.ChangeAt Go.RowKit
namespace Tg
open Qm Km

theorem ec26 (args : Array Value) (w : World) : (callFunc 26 args).run Tryd.prog w = .ok (.enter 26 args) w := enters Tryd.func26 (by kernel_rfl) (by kernel_rfl) args w
theorem ec27 (args : Array Value) (w : World) : (callFunc 27 args).run Tryd.prog w = .ok (.enter 27 args) w := enters Tryd.func27 (by kernel_rfl) (by kernel_rfl) args w
theorem dig_text : ∀ i, i < 10 → (ByteArray.mk #[48, 49, 50, 51, 52, 53, 54, 55, 56, 57]).extract i (i + 1) = str [48 + i] := by decide
set_option maxHeartbeats 1000000 in
set_option maxRecDepth 100000 in
theorem num_dig (n : Nat) (h : n < 10) (w : World) : Calls Tryd.prog 26 #[.int .i64 (n : Nat)] w fun e w' => e = .returned (.string (str (nt n))) ∧ Keep (fun _ => False) w w' := by
  have h1 : ¬ (n : Int) < -9 := by omega
  have h2 : ¬ (n : Int) < 0 := by omega
  have h3 : ¬ (9 : Int) < n := by omega
  have h4 : IntKind.i64.wrap ((n : Int) + 1) = n + 1 := by rw [IntKind.wrap_i64]; omega
  have h5 : (n : Int) ≤ n + 1 := by omega
  have h6 : (n : Int) + 1 ≤ 10 := by omega
  have h7 : (0 : Int) ≤ (n : Int) + 1 := by omega
  have he := dig_text n h
  rw [nt_small h, ← he]
  clear he
  go_enter Tryd.func26, Tryd.ntmps26
  go_wp2_with fail
  go_ret
  exact ⟨rfl, Keep.refl _ _⟩
theorem nt_big {n : Nat} (h : ¬ n < 10) : nt (n : Int) = nt ((n / 10 : Nat) : Int) ++ [48 + n % 10] := by
  unfold nt
  rw [if_neg (by omega), if_neg (by omega), Int.toNat_natCast, Int.toNat_natCast, dec_big h]
theorem nt_neg {n : Nat} (h : 0 < n) : nt (-(n : Int)) = 45 :: nt (n : Int) := by
  unfold nt
  rw [if_pos (by omega), if_neg (by omega), Int.natAbs_neg, Int.natAbs_natCast, Int.toNat_natCast]
theorem tdiv_nat (n : Nat) : Int.tdiv (n : Int) 10 = ((n / 10 : Nat) : Int) := by
  rw [show (10 : Int) = ((10 : Nat) : Int) from rfl, ← Int.ofNat_tdiv]
theorem tmod_nat (n : Nat) : Int.tmod (n : Int) 10 = ((n % 10 : Nat) : Int) := by
  rw [show (10 : Int) = ((10 : Nat) : Int) from rfl, ← Int.ofNat_tmod]
set_option maxHeartbeats 1000000 in
set_option maxRecDepth 100000 in
/-- Num of what is not negative. -/
theorem num_pos : ∀ (n : Nat), n ≤ 9223372036854775807 → ∀ w : World, Calls Tryd.prog 26 #[.int .i64 (n : Nat)] w fun e w' => e = .returned (.string (str (nt n))) ∧ Keep (fun _ => False) w w' := by
  intro n
  induction n using Nat.strongRecOn with
  | _ n ih =>
    intro hn w
    by_cases hs : n < 10
    · exact num_dig n hs w
    obtain ⟨Q, hQ⟩ : ∃ Q, Q = n / 10 := ⟨_, rfl⟩
    obtain ⟨M, hM⟩ : ∃ M, M = n % 10 := ⟨_, rfl⟩
    have hq := ih Q (by omega) (by omega)
    have e1 : wrap64 (Int.tdiv (n : Int) 10) = (Q : Int) := by rw [tdiv_nat, ← hQ]; unfold wrap64; omega
    have e2 : Int.tmod (n : Int) 10 = (M : Int) := by rw [tmod_nat, ← hM]
    have e1a : Int.tdiv (n : Int) 10 = (Q : Int) := by rw [tdiv_nat, ← hQ]
    have e1b : IntKind.i64.wrap (Q : Int) = (Q : Int) := by rw [IntKind.wrap_i64]; omega
    have e3 : IntKind.i64.wrap ((M : Int) + 1) = (M : Int) + 1 := by rw [IntKind.wrap_i64]; omega
    have e4 : (M : Int) ≤ (M : Int) + 1 := by omega
    have e5 : (M : Int) + 1 ≤ 10 := by omega
    have e6 : (0 : Int) ≤ (M : Int) + 1 := by omega
    have h1 : ¬ (n : Int) < -9 := by omega
    have h2 : ¬ (n : Int) < 0 := by omega
    have h3 : (9 : Int) < n := by omega
    have he := dig_text M (by omega)
    have HE : Hid (str (nt Q) ++ str [48 + M] = str (nt n)) := by
      show _ = _
      rw [str_append, nt_big hs, hQ, hM]
    have hsz : (str (nt Q)).size ≤ 21 := by rw [str_size]; exact nt_len (by omega) (by omega)
    have hsz2 : (str [48 + M]).size = 1 := str_size _
    have hsl : ∀ W : World, (Instr.slice 9 (.string ⟨#[48, 49, 50, 51, 52, 53, 54, 55, 56, 57]⟩) (some (.int .i64 (M : Int))) (some (.int .i64 ((M : Int) + 1))) none).run Tryd.prog W = .ok (.string (str [48 + M])) W := fun W => by
      have h := run_slice_string (P := Tryd.prog) W 9 ⟨#[48, 49, 50, 51, 52, 53, 54, 55, 56, 57]⟩ .i64 .i64 (M : Int) ((M : Int) + 1) Tryd.underlying9 (by omega) (by omega) (by show (M : Int) + 1 ≤ 10; omega)
      rw [h, ← he]
      congr 3
    generalize str (nt Q) = X at *
    generalize str [48 + M] = Y at *
    have j1 : ¬ 9223372036854775807 < X.size + Y.size := by omega
    have j2 : ¬ 9223372036854775807 < X.size + 1 := by omega
    clear ih hQ hM hs hn hsz2
    go_enter Tryd.func26, Tryd.ntmps26
    go_wp2_with fail
    refine wp_region_noPanic ?_
    refine wp_region_held_drew (S := fun w' => Keep (fun _ => False) w w') (by kernel_rfl) ((Keep.refl _ _).drew) (fun hH0 => ?_)
    refine' wpAnyH_take (i := 0) (oi := { dst := some 21, op := Op.move (Operand.tmp 0), type := 3, pos := "ref.go:85", after := #[], guard := none }) (v := _) rfl (by kernel_rfl) (by kernel_rfl) (by kernel_rfl) (fun _ _ _ h => h) (Or.inl ⟨by rfl, ?hyn0⟩) hH0 ?rn0
    case hyn0 => (intro w' hSw; clear hSw; go_simp; try with_reducible rfl)
    simp only [Act.put, List.setIfInBounds_toArray, List.set_cons_zero, List.set_cons_succ]
    refine' wpAnyH_take (i := 1) (oi := { dst := some 22, op := Op.binOp BinOp.quo 3 (Operand.tmp 21) (Operand.const (Value.int IntKind.i64 10)) 3, type := 3, pos := "ref.go:85", after := #[{ on := 0, ground := Ground.data }], guard := none }) (v := _) rfl (by kernel_rfl) (by kernel_rfl) (by kernel_rfl) (fun _ _ _ h => h) (Or.inl ⟨by rfl, ?hyn1⟩) hH0 ?rn1
    case hyn1 => (intro w' hSw; clear hSw; go_simp; try with_reducible rfl)
    simp only [Act.put, List.setIfInBounds_toArray, List.set_cons_zero, List.set_cons_succ]
    refine' wpAnyH_take (i := 3) (oi := { dst := some 24, op := Op.move (Operand.tmp 0), type := 3, pos := "ref.go:85", after := #[], guard := none }) (v := _) rfl (by kernel_rfl) (by kernel_rfl) (by kernel_rfl) (fun _ _ _ h => h) (Or.inl ⟨by rfl, ?hyn3⟩) hH0 ?rn3
    case hyn3 => (intro w' hSw; clear hSw; go_simp; try with_reducible rfl)
    simp only [Act.put, List.setIfInBounds_toArray, List.set_cons_zero, List.set_cons_succ]
    refine' wpAnyH_take (i := 4) (oi := { dst := some 25, op := Op.binOp BinOp.rem 3 (Operand.tmp 24) (Operand.const (Value.int IntKind.i64 10)) 3, type := 3, pos := "ref.go:85", after := #[{ on := 3, ground := Ground.data }], guard := none }) (v := _) rfl (by kernel_rfl) (by kernel_rfl) (by kernel_rfl) (fun _ _ _ h => h) (Or.inl ⟨by rfl, ?hyn4⟩) hH0 ?rn4
    case hyn4 => (intro w' hSw; clear hSw; go_simp; try with_reducible rfl)
    simp only [Act.put, List.setIfInBounds_toArray, List.set_cons_zero, List.set_cons_succ]
    refine' wpAnyH_take (i := 5) (oi := { dst := some 26, op := Op.move (Operand.tmp 0), type := 3, pos := "ref.go:85", after := #[], guard := none }) (v := _) rfl (by kernel_rfl) (by kernel_rfl) (by kernel_rfl) (fun _ _ _ h => h) (Or.inl ⟨by rfl, ?hyn5⟩) hH0 ?rn5
    case hyn5 => (intro w' hSw; clear hSw; go_simp; try with_reducible rfl)
    simp only [Act.put, List.setIfInBounds_toArray, List.set_cons_zero, List.set_cons_succ]
    refine' wpAnyH_take (i := 6) (oi := { dst := some 27, op := Op.binOp BinOp.rem 3 (Operand.tmp 26) (Operand.const (Value.int IntKind.i64 10)) 3, type := 3, pos := "ref.go:85", after := #[{ on := 5, ground := Ground.data }], guard := none }) (v := _) rfl (by kernel_rfl) (by kernel_rfl) (by kernel_rfl) (fun _ _ _ h => h) (Or.inl ⟨by rfl, ?hyn6⟩) hH0 ?rn6
    case hyn6 => (intro w' hSw; clear hSw; go_simp; try with_reducible rfl)
    simp only [Act.put, List.setIfInBounds_toArray, List.set_cons_zero, List.set_cons_succ]
    refine' wpAnyH_take (i := 7) (oi := { dst := some 28, op := Op.binOp BinOp.add 3 (Operand.tmp 27) (Operand.const (Value.int IntKind.i64 1)) 3, type := 3, pos := "ref.go:85", after := #[{ on := 6, ground := Ground.data }], guard := none }) (v := _) rfl (by kernel_rfl) (by kernel_rfl) (by kernel_rfl) (fun _ _ _ h => h) (Or.inl ⟨by rfl, ?hyn7⟩) hH0 ?rn7
    case hyn7 => (intro w' hSw; clear hSw; go_simp; try with_reducible rfl)
    simp only [Act.put, List.setIfInBounds_toArray, List.set_cons_zero, List.set_cons_succ]
    refine' wpAnyH_take (i := 8) (oi := { dst := some 29, op := Op.slice 9 (Operand.const (Value.string { data := #[48, 49, 50, 51, 52, 53, 54, 55, 56, 57] })) (some (Operand.tmp 25)) (some (Operand.tmp 28)) none, type := 9, pos := "ref.go:85", after := #[{ on := 4, ground := Ground.data }, { on := 7, ground := Ground.data }], guard := none }) (v := _) rfl (by kernel_rfl) (by kernel_rfl) (by kernel_rfl) (fun _ _ _ h => h) (Or.inl ⟨by rfl, ?hyn8⟩) hH0 ?rn8
    case hyn8 => (intro w' hSw; clear hSw; go_simp; try with_reducible rfl)
    simp only [Act.put, List.setIfInBounds_toArray, List.set_cons_zero, List.set_cons_succ]
    refine wpAnyH_ready (rs := [2]) (by kernel_rfl) (by simp) ?_
    refine AllReadyH.cons (o := { dst := some 23, op := Op.call { callee := Callee.value (Operand.func 26), args := #[Operand.tmp 22], argTypes := #[3] }, type := 9, pos := "ref.go:85", after := #[{ on := 1, ground := Ground.data }], guard := none }) rfl (fun K hK => ?_) AllReadyH.nil
    refine step_call_want (vs := #[.int .i64 (Q : Int)]) (R := fun u2 w2 => u2 = .string X ∧ Keep (fun _ => False) w w2) (by rfl) 26 #[Operand.tmp 22] #[3] rfl (by simp [Act.eval]) ec26 (post_keep (hq _) hH0) ?_
    rintro u w2 ⟨rfl, hk⟩
    refine hK.out _ _ (hk) (fun hH1 => ?_)
    clear hK K hH0
    simp only [Act.put, List.setIfInBounds_toArray, List.set_cons_zero, List.set_cons_succ]
    refine' wpAnyH_take (i := 9) (oi := { dst := some 30, op := Op.binOp BinOp.add 9 (Operand.tmp 23) (Operand.tmp 29) 9, type := 9, pos := "ref.go:85", after := #[{ on := 2, ground := Ground.data }, { on := 8, ground := Ground.data }], guard := none }) (v := _) rfl (by kernel_rfl) (by kernel_rfl) (by kernel_rfl) (fun _ _ _ h => h) (Or.inl ⟨by rfl, ?hyn9⟩) hH1 ?rn9
    case hyn9 => (intro w' hSw; clear hSw; go_simp; try with_reducible rfl)
    simp only [Act.put, List.setIfInBounds_toArray, List.set_cons_zero, List.set_cons_succ]
    refine' wpAnyH_take (i := 10) (oi := { dst := some 2, op := Op.assign (Operand.tmp 30), type := 9, pos := "ref.go:85", after := #[{ on := 9, ground := Ground.data }, { on := 2, ground := Ground.chain }, { on := 0, ground := Ground.phase }, { on := 1, ground := Ground.phase }, { on := 2, ground := Ground.phase }, { on := 3, ground := Ground.phase }, { on := 4, ground := Ground.phase }, { on := 5, ground := Ground.phase }, { on := 6, ground := Ground.phase }, { on := 7, ground := Ground.phase }, { on := 8, ground := Ground.phase }, { on := 9, ground := Ground.phase }], guard := none }) (v := _) rfl (by kernel_rfl) (by kernel_rfl) (by kernel_rfl) (fun _ _ _ h => h) (Or.inl ⟨by rfl, ?hyn10⟩) hH1 ?rn10
    case hyn10 => (intro w' hSw; clear hSw; go_simp; try with_reducible rfl)
    simp only [Act.put, List.setIfInBounds_toArray, List.set_cons_zero, List.set_cons_succ]
    refine wpAnyH_done (by kernel_rfl) ?_ _
    refine NoPanic.normal ?_
    go_wp2_with fail
    go_ret
    exact ⟨by rw [← HE.out]; rfl, hk⟩

theorem nt_nbig {n : Nat} (h : ¬ n < 10) : nt (-(n : Int)) = nt (-((n / 10 : Nat) : Int)) ++ [48 + n % 10] := by
  rw [nt_neg (by omega), nt_neg (by omega), nt_big h]
  rfl
set_option maxHeartbeats 1000000 in
set_option maxRecDepth 100000 in
theorem num_neg : ∀ (m : Nat), 0 < m → m ≤ 9223372036854775808 → ∀ w : World, Calls Tryd.prog 26 #[.int .i64 (-(m : Int))] w fun e w' => e = .returned (.string (str (nt (-(m : Int))))) ∧ Keep (fun _ => False) w w' := by
  intro m
  induction m using Nat.strongRecOn with
  | _ m ih =>
    intro h0 hm w
    by_cases hs : m < 10
    · have hd := num_dig m hs
      have HE : Hid ((⟨#[45]⟩ : ByteArray) ++ str (nt m) = str (nt (-(m : Int)))) := by
        show _ = _
        rw [show (⟨#[45]⟩ : ByteArray) = str [45] from rfl, str_append, nt_neg h0]
        rfl
      have hsz : (str (nt m)).size ≤ 21 := by rw [str_size]; exact nt_len (by omega) (by omega)
      have hw : IntKind.i64.wrap (-(-(m : Int))) = (m : Int) := by rw [IntKind.wrap_i64]; omega
      have h1 : ¬ (-(m : Int)) < -9 := by omega
      have h2 : (-(m : Int)) < 0 := by omega
      generalize str (nt m) = X at *
      generalize -(m : Int) = n at *
      have j2 : ¬ 9223372036854775807 < 1 + X.size := by omega
      clear ih hm hs h0
      go_enter Tryd.func26, Tryd.ntmps26
      go_wp2_with fail
      refine (hd _).mono ?_
      rintro e w2 ⟨rfl, k2⟩
      go_wp2_with fail
      go_ret
      exact ⟨by rw [← HE.out]; rfl, k2⟩
    obtain ⟨Q, hQ⟩ : ∃ Q, Q = m / 10 := ⟨_, rfl⟩
    obtain ⟨M, hM⟩ : ∃ M, M = m % 10 := ⟨_, rfl⟩
    have hq := ih Q (by omega) (by omega) (by omega)
    have hd := num_dig M (by omega)
    have e1 : Int.tdiv (-(m : Int)) 10 = -(Q : Int) := by rw [Int.neg_tdiv, tdiv_nat, ← hQ]
    have e2 : wrap64 (-(Q : Int)) = -(Q : Int) := by unfold wrap64; omega
    have e2' : IntKind.i64.wrap (-(Q : Int)) = -(Q : Int) := by rw [IntKind.wrap_i64]; omega
    have e3 : Int.tmod (-(m : Int)) 10 = -(M : Int) := by rw [Int.neg_tmod, tmod_nat, ← hM]
    have e4 : IntKind.i64.wrap (-(-(M : Int))) = (M : Int) := by rw [IntKind.wrap_i64]; omega
    have HE : Hid (str (nt (-(Q : Int))) ++ str (nt M) = str (nt (-(m : Int)))) := by
      show _ = _
      rw [str_append, nt_nbig hs, hQ, hM, nt_small (Nat.mod_lt _ (by decide))]
    have hsz : (str (nt (-(Q : Int)))).size ≤ 21 := by rw [str_size]; exact nt_len (by omega) (by omega)
    have hsz2 : (str (nt M)).size ≤ 21 := by rw [str_size]; exact nt_len (by omega) (by omega)
    have h1 : (-(m : Int)) < -9 := by omega
    generalize str (nt (-(Q : Int))) = X at *
    generalize str (nt M) = Y at *
    generalize -(m : Int) = n at *
    generalize -(Q : Int) = nQ at *
    generalize hnM : -(M : Int) = nM at *
    have j2 : ¬ 9223372036854775807 < X.size + Y.size := by omega
    clear ih hm hs h0 hQ hM hnM
    go_enter Tryd.func26, Tryd.ntmps26
    go_wp2_with fail
    refine (hq _).mono ?_
    rintro e w2 ⟨rfl, k2⟩
    go_wp2_with fail
    refine (hd _).mono ?_
    rintro e w3 ⟨rfl, k3⟩
    go_wp2_with fail
    go_ret
    exact ⟨by rw [← HE.out]; rfl, k2.trans k3⟩
/-- Num. -/
theorem rnum_any (n : Int) (h0 : I64 n) (w : World) : Calls Tryd.prog 26 #[.int .i64 n] w fun e w' => e = .returned (.string (str (nt n))) ∧ Keep (fun _ => False) w w' := by
  have h1 := h0.1; have h2 := h0.2
  by_cases h : n < 0
  · obtain ⟨m, rfl⟩ : ∃ m : Nat, n = -(m : Int) := ⟨n.natAbs, by omega⟩
    exact num_neg m (by omega) (by omega) w
  · obtain ⟨m, rfl⟩ : ∃ m : Nat, n = (m : Int) := ⟨n.toNat, by omega⟩
    exact num_pos m (by omega) w
end Tg
end Go.Proofs.YtgilagmgepogbaaDoor
