/-
  The document's own Read over any memory.
-/
import Derived.Test.YtgilagmgepogbaaDoorRRead
namespace Go.Proofs.YtgilagmgepogbaaDoor
open Go.ChangeShapes Go.WideShapes Go.ChangeAt Go.RowKit
namespace Tg
open Qm

set_option maxHeartbeats 1000000 in
set_option maxRecDepth 100000 in
/-- The document's own Read. -/
theorem rread_any (t : ByteArray) (hs : t.size ≤ 10000000000000) (w : World) : Calls Tryd.prog 38 #[.string t] w fun e w' =>
    ((∃ x n, Qm.read (bs t) = some (x, n) ∧ e = .returned (.tuple #[.string (str x), .int .i64 (n : Nat), .bool true])) ∨ (Qm.read (bs t) = none ∧ e = .returned (.tuple #[.string ⟨#[]⟩, .int .i64 0, .bool false]))) ∧ Keep (fun _ => False) w w' := by
  by_cases h0 : t.size = 0
  · have hb : bs t = [] := List.eq_nil_of_length_eq_zero (by rw [bs_len]; exact h0)
    have hR : Qm.read (bs t) = none := by rw [hb]; rfl
    have HR : Hid (Qm.read (bs t) = none) := hR
    have i0 : (t.size : Int) = 0 := by omega
    clear hb hR
    go_enter Tryd.func38, Tryd.ntmps38
    go_wp2_with fail
    go_ret3
    exact ⟨Or.inr ⟨HR.out, rfl⟩, Keep.refl _ _⟩
  have hl : 0 < t.size := by omega
  have i0 : ((t.size : Int) == 0) = false := by rw [beq_eq_false_iff_ne]; omega
  have i1 : ¬ (t.size : Int) = 0 := by omega
  have i2 : (0 : Int) < t.size := by omega
  have hb := bs_cons t hl
  rw [List.drop_zero] at hb
  by_cases h34 : (t[0]'hl).toNat = 34
  · have hc : ((t[0]'hl).toNat : Int) = 34 := by omega
    have hR : Qm.read (bs t) = match Qm.scan ((bs t).drop 1) [] 1 (((bs t).drop 1).length + 1) with | some (s, k) => if told s = (bs t).take (k + 1) then some (s, k + 1) else none | none => none := by
      rw [h34] at hb
      conv => lhs; rw [hb]
      simp only [Qm.read]
      rw [if_pos trivial, ← hb]
      rfl
    have HR : Hid (Qm.read (bs t) = match Qm.scan ((bs t).drop 1) [] 1 (((bs t).drop 1).length + 1) with | some (s, k) => if told s = (bs t).take (k + 1) then some (s, k + 1) else none | none => none) := hR
    have HL : Hid (1 ≤ t.size) := hl
    clear hR hb h34
    go_enter Tryd.func38, Tryd.ntmps38
    go_wp2_with fail
    clear i0 i1 hc
    go_loopw [5, 6] (fun b i wr => ∃ (k : Nat) (a : Option Addr) (cap : Nat) (m : List Nat), b = .slice a m.length cap ∧ i = .int .i64 (k : Nat) ∧ Om w wr a cap m ∧ k ≤ t.size ∧ 1 ≤ k ∧ m.length ≤ k ∧ ∃ f, t.size < k + f ∧ Qm.scan ((bs t).drop k) m k f = Qm.scan ((bs t).drop 1) [] 1 (((bs t).drop 1).length + 1)) (fun _ i _ => t.size - (intOf i).toNat)
    case atStart => exact ⟨1, none, 0, [], rfl, rfl, Om.nil w, HL.out, by omega, by simp, ((bs t).drop 1).length + 1, by rw [List.length_drop, bs_len]; omega, rfl⟩
    case round =>
      obtain ⟨k, a, cap, m, rfl, rfl, hO, hk, hk1, hml, f, hf, hsc⟩ := hrel
      obtain ⟨f, rfl⟩ : ∃ g, f = g + 1 := ⟨f - 1, by omega⟩
      by_cases hlt : k < t.size
      · have hcons := bs_cons t hlt
        have j1 : (k : Int) < t.size := by omega
        by_cases hm : (t[k]'hlt).toNat = 34
        · have hc : ((t[k]'hlt).toNat : Int) = 34 := by omega
          rw [hcons, hm, scan_end] at hsc
          have hR := HR.out
          rw [← hsc] at hR
          have hR2 : Qm.read (bs t) = if told m = (bs t).take (k + 1) then some (m, k + 1) else none := hR
          have ht := (hO.more ((Keep.refl _ wr).drew)).text
          have ht0 := hO.text
          have hq := fun W => rquote_any (str m) (by rw [str_size]; omega) W
          rw [bs_str hO.byte] at hq
          have n1 : ((k : Int) == t.size) = false := by rw [beq_eq_false_iff_ne]; omega
          have n2 : ¬ (k : Int) = t.size := by omega
          have n3 : IntKind.i64.wrap ((k : Int) + 1) = (k : Int) + 1 := by rw [IntKind.wrap_i64]; omega
          have n4 : (k : Int) + 1 ≤ t.size := by omega
          have n5 : (0 : Int) ≤ (k : Int) + 1 := by omega
          clear hR hsc hcons hm
          by_cases hc2 : told m = (bs t).take (k + 1)
          · rw [if_pos hc2] at hR2
            have he : t.extract 0 (k + 1) = str (told m) := by rw [hc2, ← bs_take, str_bs]
            have HR2 : Hid (Qm.read (bs t) = some (m, k + 1)) := hR2
            clear hR2 hc2 hf hk hk1 hml
            rw [← he] at hq
            clear he
            go_wp2_with fail
            refine wp_region_noPanic ?_
            refine wp_region_held_drew (S := fun w' => Keep (fun _ => False) wr w') (by kernel_rfl) ((Keep.refl _ _).drew) (fun hH0 => ?_)
            refine' wpAnyH_take (i := 0) (oi := { dst := some 42, op := Op.move (Operand.tmp 6), type := 3, pos := "ref.go:167", after := #[], guard := none }) (v := _) rfl (by kernel_rfl) (by kernel_rfl) (by kernel_rfl) (fun _ _ _ h => h) (Or.inl ⟨by rfl, ?hya0⟩) hH0 ?ra0
            case hya0 => (intro w' hSw; clear hSw; go_simp; try with_reducible rfl)
            simp only [Act.put, List.setIfInBounds_toArray, List.set_cons_zero, List.set_cons_succ]
            refine' wpAnyH_take (i := 1) (oi := { dst := some 43, op := Op.move (Operand.tmp 0), type := 9, pos := "ref.go:167", after := #[], guard := none }) (v := _) rfl (by kernel_rfl) (by kernel_rfl) (by kernel_rfl) (fun _ _ _ h => h) (Or.inl ⟨by rfl, ?hya1⟩) hH0 ?ra1
            case hya1 => (intro w' hSw; clear hSw; go_simp; try with_reducible rfl)
            simp only [Act.put, List.setIfInBounds_toArray, List.set_cons_zero, List.set_cons_succ]
            refine' wpAnyH_take (i := 2) (oi := { dst := some 44, op := Op.call { callee := Callee.builtin Builtin.len, args := #[Operand.tmp 43], argTypes := #[9] }, type := 3, pos := "ref.go:167", after := #[{ on := 1, ground := Ground.data }], guard := none }) (v := _) rfl (by kernel_rfl) (by kernel_rfl) (by kernel_rfl) (fun _ _ _ h => h) (Or.inl ⟨by rfl, ?hya2⟩) hH0 ?ra2
            case hya2 => (intro w' hSw; clear hSw; go_simp; try with_reducible rfl)
            simp only [Act.put, List.setIfInBounds_toArray, List.set_cons_zero, List.set_cons_succ]
            refine' wpAnyH_take (i := 3) (oi := { dst := some 45, op := Op.binOp BinOp.eql 3 (Operand.tmp 42) (Operand.tmp 44) 3, type := 4, pos := "ref.go:167", after := #[{ on := 0, ground := Ground.data }, { on := 2, ground := Ground.data }], guard := none }) (v := _) rfl (by kernel_rfl) (by kernel_rfl) (by kernel_rfl) (fun _ _ _ h => h) (Or.inl ⟨by rfl, ?hya3⟩) hH0 ?ra3
            case hya3 => (intro w' hSw; clear hSw; go_simp; try with_reducible rfl)
            simp only [Act.put, List.setIfInBounds_toArray, List.set_cons_zero, List.set_cons_succ]
            refine' wpAnyH_take (i := 4) (oi := { dst := some 46, op := Op.move (Operand.tmp 45), type := 4, pos := "ref.go:167", after := #[{ on := 3, ground := Ground.data }], guard := none }) (v := _) rfl (by kernel_rfl) (by kernel_rfl) (by kernel_rfl) (fun _ _ _ h => h) (Or.inl ⟨by rfl, ?hya4⟩) hH0 ?ra4
            case hya4 => (intro w' hSw; clear hSw; go_simp; try with_reducible rfl)
            simp only [Act.put, List.setIfInBounds_toArray, List.set_cons_zero, List.set_cons_succ]
            refine' wpAnyH_take (i := 5) (oi := { dst := some 47, op := Op.move (Operand.tmp 5), type := 67, pos := "ref.go:167", after := #[{ on := 4, ground := Ground.guard }], guard := some (4, false) }) (v := _) rfl (by kernel_rfl) (by kernel_rfl) (by kernel_rfl) (fun _ _ _ h => h) (Or.inl ⟨by rfl, ?hya5⟩) hH0 ?ra5
            case hya5 => (intro w' hSw; clear hSw; go_simp; try with_reducible rfl)
            simp only [Act.put, List.setIfInBounds_toArray, List.set_cons_zero, List.set_cons_succ]
            refine' wpAnyH_take (i := 6) (oi := { dst := some 48, op := Op.convert 67 9 (Operand.tmp 47), type := 9, pos := "ref.go:167", after := #[{ on := 5, ground := Ground.data }, { on := 4, ground := Ground.guard }], guard := some (4, false) }) (v := .string (str m)) rfl (by kernel_rfl) (by kernel_rfl) (by kernel_rfl) (fun _ _ _ h => h) (yields_conv (by rfl) 67 9 (.tmp 47) rfl (by rfl) (fun w' h => (hO.more h).text)) hH0 ?ra6
            simp only [Act.put, List.setIfInBounds_toArray, List.set_cons_zero, List.set_cons_succ]
            refine' wpAnyH_take (i := 8) (oi := { dst := some 50, op := Op.move (Operand.tmp 0), type := 9, pos := "ref.go:167", after := #[{ on := 4, ground := Ground.guard }], guard := some (4, false) }) (v := _) rfl (by kernel_rfl) (by kernel_rfl) (by kernel_rfl) (fun _ _ _ h => h) (Or.inl ⟨by rfl, ?hya8⟩) hH0 ?ra8
            case hya8 => (intro w' hSw; clear hSw; go_simp; try with_reducible rfl)
            simp only [Act.put, List.setIfInBounds_toArray, List.set_cons_zero, List.set_cons_succ]
            refine' wpAnyH_take (i := 9) (oi := { dst := some 51, op := Op.move (Operand.tmp 6), type := 3, pos := "ref.go:167", after := #[{ on := 4, ground := Ground.guard }], guard := some (4, false) }) (v := _) rfl (by kernel_rfl) (by kernel_rfl) (by kernel_rfl) (fun _ _ _ h => h) (Or.inl ⟨by rfl, ?hya9⟩) hH0 ?ra9
            case hya9 => (intro w' hSw; clear hSw; go_simp; try with_reducible rfl)
            simp only [Act.put, List.setIfInBounds_toArray, List.set_cons_zero, List.set_cons_succ]
            refine' wpAnyH_take (i := 10) (oi := { dst := some 52, op := Op.binOp BinOp.add 3 (Operand.tmp 51) (Operand.const (Value.int IntKind.i64 1)) 3, type := 3, pos := "ref.go:167", after := #[{ on := 9, ground := Ground.data }, { on := 4, ground := Ground.guard }], guard := some (4, false) }) (v := _) rfl (by kernel_rfl) (by kernel_rfl) (by kernel_rfl) (fun _ _ _ h => h) (Or.inl ⟨by rfl, ?hya10⟩) hH0 ?ra10
            case hya10 => (intro w' hSw; clear hSw; go_simp; try with_reducible rfl)
            simp only [Act.put, List.setIfInBounds_toArray, List.set_cons_zero, List.set_cons_succ]
            refine' wpAnyH_take (i := 11) (oi := { dst := some 53, op := Op.slice 9 (Operand.tmp 50) none (some (Operand.tmp 52)) none, type := 9, pos := "ref.go:167", after := #[{ on := 8, ground := Ground.data }, { on := 10, ground := Ground.data }, { on := 4, ground := Ground.guard }], guard := some (4, false) }) (v := _) rfl (by kernel_rfl) (by kernel_rfl) (by kernel_rfl) (fun _ _ _ h => h) (Or.inl ⟨by rfl, ?hya11⟩) hH0 ?ra11
            case hya11 => (intro w' hSw; clear hSw; go_simp; try with_reducible rfl)
            simp only [Act.put, List.setIfInBounds_toArray, List.set_cons_zero, List.set_cons_succ]
            refine wpAnyH_ready (rs := [7]) (by kernel_rfl) (by simp) ?_
            refine AllReadyH.cons (o := { dst := some 49, op := Op.call { callee := Callee.value (Operand.func 27), args := #[Operand.tmp 48], argTypes := #[9] }, type := 9, pos := "ref.go:167", after := #[{ on := 6, ground := Ground.data }, { on := 4, ground := Ground.chain }, { on := 4, ground := Ground.guard }], guard := some (4, false) }) rfl (fun K hK => ?_) AllReadyH.nil
            refine step_call_want (vs := #[.string (str m)]) (R := fun u w2 => u = .string (t.extract 0 (k + 1)) ∧ Keep (fun _ => False) wr w2) (by rfl) 27 #[Operand.tmp 48] #[9] rfl (by simp [Act.eval]) call13 (post_keep (hq _) ((Keep.refl _ wr).drew)) ?_
            rintro u w2 ⟨rfl, hk2⟩
            refine hK.out _ _ (hk2) (fun hH1 => ?_)
            clear hK K hH0
            simp only [Act.put, List.setIfInBounds_toArray, List.set_cons_zero, List.set_cons_succ]
            refine' wpAnyH_take (i := 12) (oi := { dst := some 54, op := Op.binOp BinOp.neq 9 (Operand.tmp 49) (Operand.tmp 53) 9, type := 4, pos := "ref.go:167", after := #[{ on := 7, ground := Ground.data }, { on := 11, ground := Ground.data }, { on := 4, ground := Ground.guard }], guard := some (4, false) }) (v := _) rfl (by kernel_rfl) (by kernel_rfl) (by kernel_rfl) (fun _ _ _ h => h) (Or.inl ⟨by rfl, ?hya12⟩) hH1 ?ra12
            case hya12 => (intro w' hSw; clear hSw; go_simp; try with_reducible rfl)
            simp only [Act.put, List.setIfInBounds_toArray, List.set_cons_zero, List.set_cons_succ]
            refine' wpAnyH_take (i := 13) (oi := { dst := some 55, op := Op.pick (Operand.tmp 46) (Operand.const (Value.bool true)) (Operand.tmp 54), type := 4, pos := "ref.go:167", after := #[{ on := 4, ground := Ground.data }, { on := 12, ground := Ground.data }], guard := none }) (v := _) rfl (by kernel_rfl) (by kernel_rfl) (by kernel_rfl) (fun _ _ _ h => h) (Or.inl ⟨by rfl, ?hya13⟩) hH1 ?ra13
            case hya13 => (intro w' hSw; clear hSw; go_simp; try with_reducible rfl)
            simp only [Act.put, List.setIfInBounds_toArray, List.set_cons_zero, List.set_cons_succ]
            refine wpAnyH_done (by kernel_rfl) ?_ _
            refine NoPanic.normal ?_
            have ht2 := (hO.more hk2).text
            go_wp2_with fail
            go_ret3
            exact ⟨Or.inl ⟨m, k + 1, HR2.out, rfl⟩, (hO.more hk2).keep⟩
          · rw [if_neg hc2] at hR2
            have he : ((str (told m)).toList == (t.extract 0 (k + 1)).toList) = false := beq_no fun e => hc2 (by rw [← bs_take, ← e, bs_str (told_byte m)])
            have HR2 : Hid (Qm.read (bs t) = none) := hR2
            clear hR2 hc2 hf hk hk1 hml
            go_wp2_with fail
            refine wp_region_noPanic ?_
            refine wp_region_held_drew (S := fun w' => Keep (fun _ => False) wr w') (by kernel_rfl) ((Keep.refl _ _).drew) (fun hH0 => ?_)
            refine' wpAnyH_take (i := 0) (oi := { dst := some 42, op := Op.move (Operand.tmp 6), type := 3, pos := "ref.go:167", after := #[], guard := none }) (v := _) rfl (by kernel_rfl) (by kernel_rfl) (by kernel_rfl) (fun _ _ _ h => h) (Or.inl ⟨by rfl, ?hyb0⟩) hH0 ?rb0
            case hyb0 => (intro w' hSw; clear hSw; go_simp; try with_reducible rfl)
            simp only [Act.put, List.setIfInBounds_toArray, List.set_cons_zero, List.set_cons_succ]
            refine' wpAnyH_take (i := 1) (oi := { dst := some 43, op := Op.move (Operand.tmp 0), type := 9, pos := "ref.go:167", after := #[], guard := none }) (v := _) rfl (by kernel_rfl) (by kernel_rfl) (by kernel_rfl) (fun _ _ _ h => h) (Or.inl ⟨by rfl, ?hyb1⟩) hH0 ?rb1
            case hyb1 => (intro w' hSw; clear hSw; go_simp; try with_reducible rfl)
            simp only [Act.put, List.setIfInBounds_toArray, List.set_cons_zero, List.set_cons_succ]
            refine' wpAnyH_take (i := 2) (oi := { dst := some 44, op := Op.call { callee := Callee.builtin Builtin.len, args := #[Operand.tmp 43], argTypes := #[9] }, type := 3, pos := "ref.go:167", after := #[{ on := 1, ground := Ground.data }], guard := none }) (v := _) rfl (by kernel_rfl) (by kernel_rfl) (by kernel_rfl) (fun _ _ _ h => h) (Or.inl ⟨by rfl, ?hyb2⟩) hH0 ?rb2
            case hyb2 => (intro w' hSw; clear hSw; go_simp; try with_reducible rfl)
            simp only [Act.put, List.setIfInBounds_toArray, List.set_cons_zero, List.set_cons_succ]
            refine' wpAnyH_take (i := 3) (oi := { dst := some 45, op := Op.binOp BinOp.eql 3 (Operand.tmp 42) (Operand.tmp 44) 3, type := 4, pos := "ref.go:167", after := #[{ on := 0, ground := Ground.data }, { on := 2, ground := Ground.data }], guard := none }) (v := _) rfl (by kernel_rfl) (by kernel_rfl) (by kernel_rfl) (fun _ _ _ h => h) (Or.inl ⟨by rfl, ?hyb3⟩) hH0 ?rb3
            case hyb3 => (intro w' hSw; clear hSw; go_simp; try with_reducible rfl)
            simp only [Act.put, List.setIfInBounds_toArray, List.set_cons_zero, List.set_cons_succ]
            refine' wpAnyH_take (i := 4) (oi := { dst := some 46, op := Op.move (Operand.tmp 45), type := 4, pos := "ref.go:167", after := #[{ on := 3, ground := Ground.data }], guard := none }) (v := _) rfl (by kernel_rfl) (by kernel_rfl) (by kernel_rfl) (fun _ _ _ h => h) (Or.inl ⟨by rfl, ?hyb4⟩) hH0 ?rb4
            case hyb4 => (intro w' hSw; clear hSw; go_simp; try with_reducible rfl)
            simp only [Act.put, List.setIfInBounds_toArray, List.set_cons_zero, List.set_cons_succ]
            refine' wpAnyH_take (i := 5) (oi := { dst := some 47, op := Op.move (Operand.tmp 5), type := 67, pos := "ref.go:167", after := #[{ on := 4, ground := Ground.guard }], guard := some (4, false) }) (v := _) rfl (by kernel_rfl) (by kernel_rfl) (by kernel_rfl) (fun _ _ _ h => h) (Or.inl ⟨by rfl, ?hyb5⟩) hH0 ?rb5
            case hyb5 => (intro w' hSw; clear hSw; go_simp; try with_reducible rfl)
            simp only [Act.put, List.setIfInBounds_toArray, List.set_cons_zero, List.set_cons_succ]
            refine' wpAnyH_take (i := 6) (oi := { dst := some 48, op := Op.convert 67 9 (Operand.tmp 47), type := 9, pos := "ref.go:167", after := #[{ on := 5, ground := Ground.data }, { on := 4, ground := Ground.guard }], guard := some (4, false) }) (v := .string (str m)) rfl (by kernel_rfl) (by kernel_rfl) (by kernel_rfl) (fun _ _ _ h => h) (yields_conv (by rfl) 67 9 (.tmp 47) rfl (by rfl) (fun w' h => (hO.more h).text)) hH0 ?rb6
            simp only [Act.put, List.setIfInBounds_toArray, List.set_cons_zero, List.set_cons_succ]
            refine' wpAnyH_take (i := 8) (oi := { dst := some 50, op := Op.move (Operand.tmp 0), type := 9, pos := "ref.go:167", after := #[{ on := 4, ground := Ground.guard }], guard := some (4, false) }) (v := _) rfl (by kernel_rfl) (by kernel_rfl) (by kernel_rfl) (fun _ _ _ h => h) (Or.inl ⟨by rfl, ?hyb8⟩) hH0 ?rb8
            case hyb8 => (intro w' hSw; clear hSw; go_simp; try with_reducible rfl)
            simp only [Act.put, List.setIfInBounds_toArray, List.set_cons_zero, List.set_cons_succ]
            refine' wpAnyH_take (i := 9) (oi := { dst := some 51, op := Op.move (Operand.tmp 6), type := 3, pos := "ref.go:167", after := #[{ on := 4, ground := Ground.guard }], guard := some (4, false) }) (v := _) rfl (by kernel_rfl) (by kernel_rfl) (by kernel_rfl) (fun _ _ _ h => h) (Or.inl ⟨by rfl, ?hyb9⟩) hH0 ?rb9
            case hyb9 => (intro w' hSw; clear hSw; go_simp; try with_reducible rfl)
            simp only [Act.put, List.setIfInBounds_toArray, List.set_cons_zero, List.set_cons_succ]
            refine' wpAnyH_take (i := 10) (oi := { dst := some 52, op := Op.binOp BinOp.add 3 (Operand.tmp 51) (Operand.const (Value.int IntKind.i64 1)) 3, type := 3, pos := "ref.go:167", after := #[{ on := 9, ground := Ground.data }, { on := 4, ground := Ground.guard }], guard := some (4, false) }) (v := _) rfl (by kernel_rfl) (by kernel_rfl) (by kernel_rfl) (fun _ _ _ h => h) (Or.inl ⟨by rfl, ?hyb10⟩) hH0 ?rb10
            case hyb10 => (intro w' hSw; clear hSw; go_simp; try with_reducible rfl)
            simp only [Act.put, List.setIfInBounds_toArray, List.set_cons_zero, List.set_cons_succ]
            refine' wpAnyH_take (i := 11) (oi := { dst := some 53, op := Op.slice 9 (Operand.tmp 50) none (some (Operand.tmp 52)) none, type := 9, pos := "ref.go:167", after := #[{ on := 8, ground := Ground.data }, { on := 10, ground := Ground.data }, { on := 4, ground := Ground.guard }], guard := some (4, false) }) (v := _) rfl (by kernel_rfl) (by kernel_rfl) (by kernel_rfl) (fun _ _ _ h => h) (Or.inl ⟨by rfl, ?hyb11⟩) hH0 ?rb11
            case hyb11 => (intro w' hSw; clear hSw; go_simp; try with_reducible rfl)
            simp only [Act.put, List.setIfInBounds_toArray, List.set_cons_zero, List.set_cons_succ]
            refine wpAnyH_ready (rs := [7]) (by kernel_rfl) (by simp) ?_
            refine AllReadyH.cons (o := { dst := some 49, op := Op.call { callee := Callee.value (Operand.func 27), args := #[Operand.tmp 48], argTypes := #[9] }, type := 9, pos := "ref.go:167", after := #[{ on := 6, ground := Ground.data }, { on := 4, ground := Ground.chain }, { on := 4, ground := Ground.guard }], guard := some (4, false) }) rfl (fun K hK => ?_) AllReadyH.nil
            refine step_call_want (vs := #[.string (str m)]) (R := fun u w2 => u = .string (str (told m)) ∧ Keep (fun _ => False) wr w2) (by rfl) 27 #[Operand.tmp 48] #[9] rfl (by simp [Act.eval]) call13 (post_keep (hq _) ((Keep.refl _ wr).drew)) ?_
            rintro u w2 ⟨rfl, hk2⟩
            refine hK.out _ _ (hk2) (fun hH1 => ?_)
            clear hK K hH0
            simp only [Act.put, List.setIfInBounds_toArray, List.set_cons_zero, List.set_cons_succ]
            refine' wpAnyH_take (i := 12) (oi := { dst := some 54, op := Op.binOp BinOp.neq 9 (Operand.tmp 49) (Operand.tmp 53) 9, type := 4, pos := "ref.go:167", after := #[{ on := 7, ground := Ground.data }, { on := 11, ground := Ground.data }, { on := 4, ground := Ground.guard }], guard := some (4, false) }) (v := _) rfl (by kernel_rfl) (by kernel_rfl) (by kernel_rfl) (fun _ _ _ h => h) (Or.inl ⟨by rfl, ?hyb12⟩) hH1 ?rb12
            case hyb12 => (intro w' hSw; clear hSw; go_simp; try with_reducible rfl)
            simp only [Act.put, List.setIfInBounds_toArray, List.set_cons_zero, List.set_cons_succ]
            refine' wpAnyH_take (i := 13) (oi := { dst := some 55, op := Op.pick (Operand.tmp 46) (Operand.const (Value.bool true)) (Operand.tmp 54), type := 4, pos := "ref.go:167", after := #[{ on := 4, ground := Ground.data }, { on := 12, ground := Ground.data }], guard := none }) (v := _) rfl (by kernel_rfl) (by kernel_rfl) (by kernel_rfl) (fun _ _ _ h => h) (Or.inl ⟨by rfl, ?hyb13⟩) hH1 ?rb13
            case hyb13 => (intro w' hSw; clear hSw; go_simp; try with_reducible rfl)
            simp only [Act.put, List.setIfInBounds_toArray, List.set_cons_zero, List.set_cons_succ]
            refine wpAnyH_done (by kernel_rfl) ?_ _
            refine NoPanic.normal ?_
            go_wp2_with fail
            go_ret3
            exact ⟨Or.inr ⟨HR2.out, rfl⟩, (hO.more hk2).keep⟩
        · have n34 : (((t[k]'hlt).toNat : Int) == 34) = false := by rw [beq_eq_false_iff_ne]; omega
          have m34 : ¬ ((t[k]'hlt).toNat : Int) = 34 := by omega
          have ho := one_any (t.extract k t.size) (by simp; omega) (by simp; omega) wr
          rw [bs_drop] at ho
          rw [hcons, scan_step hm, ← hcons, List.drop_drop] at hsc
          obtain ⟨b1, b2, b3⟩ := one_bd ((bs t).drop k)
          rw [List.length_drop, bs_len] at b1
          have b4 := one_bytes (l := (bs t).drop k) (fun y hy => bs_byte t y (List.mem_of_mem_drop hy))
          have j2 : (k : Int) ≤ t.size := by omega
          clear hcons hm
          generalize (one ((bs t).drop k)).1 = p at *
          generalize (one ((bs t).drop k)).2 = n at *
          by_cases hn : n = 0
          · subst hn
            rw [if_pos rfl] at hsc
            have hR := HR.out
            rw [← hsc] at hR
            have HR2 : Hid (Qm.read (bs t) = none) := hR
            clear hR hsc b1 b2 b3 b4 hf hk hk1 hml
            go_wp2_with fail
            refine ho.mono ?_
            rintro e w1 ⟨rfl, hk⟩
            go_wp2_with fail
            go_ret3
            exact ⟨Or.inr ⟨HR2.out, rfl⟩, hO.keep.trans hk⟩
          · rw [if_neg hn] at hsc
            have n1 : ((n : Int) == 0) = false := by rw [beq_eq_false_iff_ne]; omega
            have n2 : ¬ (n : Int) = 0 := by omega
            have n3 : IntKind.i64.wrap ((k : Int) + n) = (k : Int) + n := by rw [IntKind.wrap_i64]; omega
            have HS : Hid (Qm.scan ((bs t).drop (k + n)) (m ++ p) (k + n) f = Qm.scan ((bs t).drop 1) [] 1 (((bs t).drop 1).length + 1)) := hsc
            have HB : Hid (1 ≤ n ∧ n ≤ t.size - k ∧ p.length ≤ n ∧ k < t.size ∧ m.length ≤ k ∧ t.size < k + (f + 1)) := ⟨by omega, b1, b2, hlt, hml, hf⟩
            clear hsc hf hk hk1 hml b1 b2
            go_wp2_with fail
            refine ho.mono ?_
            rintro e w1 ⟨rfl, hk⟩
            obtain ⟨a3, cap3, w3, hrun3, hO3⟩ := (hO.more hk).puts p (b3 hn) b4 (by have := HB.out; omega)
            go_wp2_with (at_builtin; refine wpList_append_text rfl (.tmp 36) (.tmp 37) 67 9 rfl (by rfl) (by rfl) hrun3 ?_)
            refine ⟨⟨k + n, a3, cap3, m ++ p, by rw [List.length_append], by rw [Int.natCast_add], hO3, ?_, ?_, ?_, f, ?_, HS.out⟩, ?_⟩
            · have := HB.out; omega
            · have := HB.out; omega
            · have := HB.out; rw [List.length_append]; omega
            · have := HB.out; omega
            · have := HB.out; simp [intOf]; omega
      · have hd : (bs t).drop k = [] := by rw [List.drop_eq_nil_iff, bs_len]; omega
        rw [hd, scan_nil] at hsc
        have hR := HR.out
        rw [← hsc] at hR
        have HR2 : Hid (Qm.read (bs t) = none) := hR
        have hkk : k = t.size := by omega
        subst hkk
        have n1 : ¬ (t.size : Int) < t.size := by omega
        clear hR hsc hd hf hk hk1 hml
        go_wp2_with fail
        go_quiet (fail)
        go_wp2_with fail
        go_ret3
        exact ⟨Or.inr ⟨HR2.out, rfl⟩, hO.keep.drewN _⟩
  · have n34 : (((t[0]'hl).toNat : Int) == 34) = false := by rw [beq_eq_false_iff_ne]; omega
    have m34 : ¬ ((t[0]'hl).toNat : Int) = 34 := by omega
    have hR : Qm.read (bs t) = none := by
      rw [hb]
      simp only [Qm.read]
      rw [if_neg h34]
    have HR : Hid (Qm.read (bs t) = none) := hR
    clear hb hR h34
    go_enter Tryd.func38, Tryd.ntmps38
    go_wp2_with fail
    go_ret3
    exact ⟨Or.inr ⟨HR.out, rfl⟩, Keep.refl _ _⟩
end Tg
end Go.Proofs.YtgilagmgepogbaaDoor
