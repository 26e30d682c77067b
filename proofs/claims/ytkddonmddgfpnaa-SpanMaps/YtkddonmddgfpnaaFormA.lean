/-
  Are runs in their one form: the program's way of asking, and the document's own.
-/
import Derived.Test.YtkddonmddgfpnaaSpB
import Derived.Deep.RegionHeld3
namespace Go.Proofs.Ytkddonmddgfpnaa
open Go.ChangeShapes Go.WideShapes Go.ChangeAt Go.RowKit
namespace Tg

/-- May a run, by itself, be a map's? -/
def inB (x : Rn) : Bool := decide (0 ≤ x.lba) && decide (x.lba ≤ 1073741824) && decide (1 ≤ x.len) && decide (x.len ≤ 1073741824) && decide (0 ≤ x.phys) && decide (x.phys ≤ 1073741824)
theorem inB_iff {x : Rn} : inB x = true ↔ 0 ≤ x.lba ∧ x.lba ≤ 1073741824 ∧ 1 ≤ x.len ∧ x.len ≤ 1073741824 ∧ 0 ≤ x.phys ∧ x.phys ≤ 1073741824 := by
  unfold inB
  simp [and_assoc]
/-- May a run stand next behind another one? -/
def folB (a x : Rn) : Bool := if x.lba - a.lba = a.len then x.phys - a.phys != a.len else decide (a.len < x.lba - a.lba)
/-- Are runs in their form, behind one that may stand ahead? -/
def formP : Option Rn → List Rn → Bool
  | _, [] => true
  | none, x :: l => inB x && formP (some x) l
  | some a, x :: l => inB x && (folB a x && formP (some x) l)
theorem form_true : ∀ {m : List Rn} {p : Option Rn}, Form m → (∀ x ∈ m, inB x = true) → (∀ a, p = some a → ∀ x ∈ m, a.fin ≤ x.lba ∧ ¬ Glued a x) → formP p m = true
  | [], p, _, _, _ => by cases p <;> rfl
  | x :: m, p, hf, hb, hp => by
    obtain ⟨h1, h2, h3⟩ := Form.cons.1 hf
    have ih := form_true (p := some x) h3 (fun y hy => hb y (by simp [hy])) (fun a e y hy => by injection e with e; subst e; exact h2 y hy)
    cases p with
    | none => simp [formP, hb x (by simp), ih]
    | some a =>
      have h4 := hp a rfl x (by simp)
      have : folB a x = true := by
        unfold folB
        unfold Glued Rn.fin at h4
        split
        · simp; omega
        · simp; omega
      simp [formP, hb x (by simp), ih, this]

set_option maxRecDepth 100000 in
set_option maxHeartbeats 1000000 in
theorem inBounds_any (w : World) (x : Rn) : Calls Try.prog 35 #[.agg #[.int .i64 x.lba, .int .i64 x.len, .int .i64 x.phys]] w fun e w' => e = .returned (.bool (inB x)) ∧ Keep (fun _ => False) w w' := by
  have K1 : Keep (fun _ => False) w (w.alloc (.cells #[.int .i64 x.lba, .int .i64 x.len, .int .i64 x.phys] 34)) := (Keep.refl _ _).alloc _
  unfold inB
  by_cases c1 : 0 ≤ x.lba
  · by_cases c2 : x.lba ≤ 1073741824
    · by_cases c3 : 1 ≤ x.len
      · by_cases c4 : x.len ≤ 1073741824
        · by_cases c5 : 0 ≤ x.phys
          · go_enter Try.func35, Try.ntmps35
            go_wp2_with fail
            go_ret
            exact ⟨by simp [c1, c2, c3, c4, c5], K1⟩
          · go_enter Try.func35, Try.ntmps35
            go_wp2_with fail
            go_ret
            exact ⟨by simp; intros; omega, K1⟩
        · go_enter Try.func35, Try.ntmps35
          go_wp2_with fail
          go_ret
          exact ⟨by simp; intros; omega, K1⟩
      · go_enter Try.func35, Try.ntmps35
        go_wp2_with fail
        go_ret
        exact ⟨by simp; intros; omega, K1⟩
    · go_enter Try.func35, Try.ntmps35
      go_wp2_with fail
      go_ret
      exact ⟨by simp; intros; omega, K1⟩
  · go_enter Try.func35, Try.ntmps35
    go_wp2_with fail
    go_ret
    exact ⟨by simp; intros; omega, K1⟩
set_option maxRecDepth 100000 in
theorem mayFollow_any (w : World) (a x : Rn) (ha : inB a = true) (hx : inB x = true) : Calls Try.prog 36 #[.agg #[.int .i64 a.lba, .int .i64 a.len, .int .i64 a.phys], .agg #[.int .i64 x.lba, .int .i64 x.len, .int .i64 x.phys]] w fun e w' => e = .returned (.bool (folB a x)) ∧ Keep (fun _ => False) w w' := by
  have K1 : Keep (fun _ => False) w ((w.alloc (.cells #[.int .i64 a.lba, .int .i64 a.len, .int .i64 a.phys] 34)).alloc (.cells #[.int .i64 x.lba, .int .i64 x.len, .int .i64 x.phys] 34)) := ((Keep.refl _ _).alloc _).alloc _
  rw [inB_iff] at ha hx
  have d1 := wrapI (x := x.lba - a.lba) (by omega) (by omega)
  have d2 := wrapI (x := x.phys - a.phys) (by omega) (by omega)
  unfold folB
  clear ha hx
  by_cases c : x.lba - a.lba = a.len
  · have cb : (x.lba - a.lba == a.len) = true := by simp [c]
    rw [if_pos c]
    clear c
    go_enter Try.func36, Try.ntmps36
    go_wp2_with fail
    go_ret
    exact ⟨rfl, K1⟩
  · have cb : (x.lba - a.lba == a.len) = false := by simp [c]
    rw [if_neg c]
    clear c
    go_enter Try.func36, Try.ntmps36
    go_wp2_with fail
    go_ret
    exact ⟨rfl, K1⟩
theorem inside_any (w : World) (n least : Int) : Calls Try.prog 45 #[.int .i64 n, .int .i64 least] w fun e w' => e = .returned (.bool (decide (least ≤ n) && decide (n ≤ 1073741824))) ∧ w' = w := by
  by_cases c : least ≤ n
  · go_enter Try.func45, Try.ntmps45
    go_wp2_with fail
    go_ret
    exact ⟨by simp [c], rfl⟩
  · go_enter Try.func45, Try.ntmps45
    go_wp2_with fail
    go_ret
    exact ⟨by simp; intros; omega, rfl⟩

theorem call35 (args : Array Value) (w : World) : (callFunc 35 args).run Try.prog w = .ok (.enter 35 args) w := enters Try.func35 (by kernel_rfl) (by kernel_rfl) args w
theorem call36 (args : Array Value) (w : World) : (callFunc 36 args).run Try.prog w = .ok (.enter 36 args) w := enters Try.func36 (by kernel_rfl) (by kernel_rfl) args w
/-- The run ahead of a place. -/
def prev (l : List Rn) : Nat → Option Rn
  | 0 => none
  | i + 1 => l[i]?
theorem prev_succ (l : List Rn) (i : Nat) : prev l (i + 1) = l[i]? := rfl
theorem drop_at {l : List Rn} {i : Nat} {x : Rn} (h : l[i]? = some x) : l.drop i = x :: l.drop (i + 1) := by
  obtain ⟨hi, e⟩ := List.getElem?_eq_some_iff.1 h
  rw [← List.getElem_cons_drop hi, e]
/-- What one place asks. -/
def okAt (p : Option Rn) (x : Rn) : Bool := inB x && (match p with | none => true | some a => folB a x)
theorem formP_at (p : Option Rn) (x : Rn) (l : List Rn) : formP p (x :: l) = (okAt p x && formP (some x) l) := by
  unfold okAt
  cases p <;> simp [formP, Bool.and_assoc]
set_option maxRecDepth 100000 in
set_option maxHeartbeats 2000000 in
theorem form_any {w : World} {a : Option Addr} {cap : Nat} {l : List Rn} (hR : Rz w a cap l) (hl : l.length ≤ 9223372036854775807) :
    Calls Try.prog 12 #[.slice a l.length cap] w fun e w' => e = .returned (.bool (formP none l)) ∧ Keep (fun _ => False) w w' := by
  have hlc := hR.1
  have hlc2 := hR.2.1
  have h0 : formP none l = formP (prev l 0) (l.drop 0) := by rw [List.drop_zero]; rfl
  go_enter Try.func12, Try.ntmps12
  go_wp2_with fail
  go_loopw [7] (fun v wx => ∃ i : Nat, i ≤ l.length ∧ v = .int .i64 (i : Int) ∧ Hid (formP none l = formP (prev l i) (l.drop i)) ∧ Hid (∀ y, prev l i = some y → inB y = true) ∧ Keep (fun _ => False) w wx) (fun v _ => l.length - (intOf v).toNat)
  case atStart => exact ⟨0, by omega, rfl, h0, (fun y e => by cases e), Keep.refl _ _⟩
  case round =>
    clear h0
    obtain ⟨i, hi, rfl, hI, hP, k1⟩ := hrel
    by_cases hlt : i < l.length
    · obtain ⟨x, hx⟩ := get_rn hlt
      obtain ⟨g, o, rfl, c0, c1, c2⟩ := (hR.more k1).at hx
      have hstep : formP none l = (okAt (prev l i) x && formP (some x) (l.drop (i + 1))) := by
        rw [show formP none l = formP (prev l i) (l.drop i) from hI, drop_at hx, formP_at]
      have hP2 := show ∀ y, prev l i = some y → inB y = true from hP
      have di : (i : Int) < (l.length : Int) := by omega
      have dw := wrapI (x := (i : Int) + 1) (by omega) (by omega)
      have hlt' : Hid (i < l.length) := hlt
      have hx' : Hid (l[i]? = some x) := hx
      have K2 : Keep (fun _ => False) wr (wr.alloc (.cells #[.int .i64 x.lba, .int .i64 x.len, .int .i64 x.phys] 34)) := (Keep.refl _ _).alloc _
      have L1 : Blk (wr.alloc (.cells #[.int .i64 x.lba, .int .i64 x.len, .int .i64 x.phys] 34)) wr.heap.size 3 (rcell x) := blk_alloc wr _ 34 3 _ (fun i hi => by
        have : i = 0 ∨ i = 1 ∨ i = 2 := by omega
        rcases this with rfl | rfl | rfl <;> rfl)
      have R2 := hR.more (k1.trans K2)
      go_upto_region 4 with fail
      generalize wr.alloc (.cells #[.int .i64 x.lba, .int .i64 x.len, .int .i64 x.phys] 34) = w2 at K2 L1 R2 ⊢
      generalize wr.heap.size = G at L1 ⊢
      have k2 := k1.trans K2
      clear c0 c1 c2 hI hP K2 k1 hR hlt hx
      cases hb : inB x with
      | false =>
        have hF : Hid (formP none l = false) := by show formP none l = false; rw [hstep]; unfold okAt; rw [hb]; rfl
        have hin := fun w => inBounds_any w x
        rw [hb] at hin
        have hS : ∀ w', Keep (fun _ => False) w2.drew w' → w'.cell? ⟨G, 0, none⟩ = some (.int .i64 x.lba) ∧ w'.cell? ⟨G, 1, none⟩ = some (.int .i64 x.len) ∧ w'.cell? ⟨G, 2, none⟩ = some (.int .i64 x.phys) := fun w' hk => by
          have L2 := Blk.keep L1 ((Keep.refl (fun _ => False) w2).drew.trans hk) (fun e => e)
          exact ⟨(L2 0 (by omega)).1, (L2 1 (by omega)).1, (L2 2 (by omega)).1⟩
        clear hstep hP2 L1 R2 hb
        refine wp_region_noPanic ?_
        refine wp_region_held_drew (S := fun w' => w'.cell? ⟨G, 0, none⟩ = some (.int .i64 x.lba) ∧ w'.cell? ⟨G, 1, none⟩ = some (.int .i64 x.len) ∧ w'.cell? ⟨G, 2, none⟩ = some (.int .i64 x.phys)) (by kernel_rfl) (hS _ (Keep.refl _ _)) (fun hH0 => ?_)
        refine' wpAnyH_take (i := 0) (oi := { dst := some 12, op := Op.load 34 (Operand.tmp 4), type := 34, pos := "span.go:81", after := #[], guard := none }) (v := _) rfl (by kernel_rfl) (by kernel_rfl) (by kernel_rfl) (fun _ _ _ h => h) (Or.inl ⟨by rfl, ?hya0⟩) hH0 ?ra0
        case hya0 => (intro w' hSw; obtain ⟨z0, z1, z2⟩ := hSw; go_simp; try with_reducible rfl)
        simp only [Act.put, List.setIfInBounds_toArray, List.set_cons_zero, List.set_cons_succ]
        refine wpAnyH_ready (rs := [1]) (by kernel_rfl) (by simp) ?_
        refine AllReadyH.cons (o := { dst := some 13, op := Op.call { callee := Callee.value (Operand.func 35), args := #[Operand.tmp 12], argTypes := #[34] }, type := 4, pos := "span.go:81", after := #[{ on := 0, ground := Ground.data }], guard := none }) rfl (fun K hK => ?_) AllReadyH.nil
        refine step_call_want (vs := #[.agg #[.int .i64 x.lba, .int .i64 x.len, .int .i64 x.phys]]) (R := fun u wz => u = .bool false ∧ Keep (fun _ => False) w2.drew wz) (by rfl) 35 #[Operand.tmp 12] #[34] rfl (by simp [Act.eval]) call35 (post_of (hin _)) ?_
        rintro _ w3 ⟨rfl, k3⟩
        refine hK.out _ _ (hS _ k3) (fun hH1 => ?_)
        clear hK K hH0
        simp only [Act.put, List.setIfInBounds_toArray, List.set_cons_zero, List.set_cons_succ]
        refine' wpAnyH_take (i := 2) (oi := { dst := some 14, op := Op.unOp UnOp.not 4 (Operand.tmp 13), type := 4, pos := "span.go:81", after := #[{ on := 1, ground := Ground.data }], guard := none }) (v := _) rfl (by kernel_rfl) (by kernel_rfl) (by kernel_rfl) (fun _ _ _ h => h) (Or.inl ⟨by rfl, ?hya2⟩) hH1 ?ra2
        case hya2 => (intro w' hSw; clear hSw; go_simp; try with_reducible rfl)
        simp only [Act.put, List.setIfInBounds_toArray, List.set_cons_zero, List.set_cons_succ]
        refine' wpAnyH_take (i := 3) (oi := { dst := some 15, op := Op.move (Operand.tmp 14), type := 4, pos := "span.go:81", after := #[{ on := 2, ground := Ground.data }, { on := 1, ground := Ground.chain }], guard := none }) (v := _) rfl (by kernel_rfl) (by kernel_rfl) (by kernel_rfl) (fun _ _ _ h => h) (Or.inl ⟨by rfl, ?hya3⟩) hH1 ?ra3
        case hya3 => (intro w' hSw; clear hSw; go_simp; try with_reducible rfl)
        simp only [Act.put, List.setIfInBounds_toArray, List.set_cons_zero, List.set_cons_succ]
        refine' wpAnyH_take (i := 4) (oi := { dst := some 16, op := Op.move (Operand.tmp 3), type := 3, pos := "span.go:81", after := #[{ on := 3, ground := Ground.guard }], guard := some (3, false) }) (v := undef) rfl (by kernel_rfl) (by kernel_rfl) (by kernel_rfl) (fun _ _ _ h => h) (Or.inr ⟨by rfl, rfl⟩) hH1 ?ra4
        simp only [Act.put, List.setIfInBounds_toArray, List.set_cons_zero, List.set_cons_succ]
        refine' wpAnyH_take (i := 5) (oi := { dst := some 17, op := Op.binOp BinOp.gtr 3 (Operand.tmp 16) (Operand.const (Value.int IntKind.i64 0)) 3, type := 4, pos := "span.go:81", after := #[{ on := 4, ground := Ground.data }, { on := 3, ground := Ground.guard }], guard := some (3, false) }) (v := undef) rfl (by kernel_rfl) (by kernel_rfl) (by kernel_rfl) (fun _ _ _ h => h) (Or.inr ⟨by rfl, rfl⟩) hH1 ?ra5
        simp only [Act.put, List.setIfInBounds_toArray, List.set_cons_zero, List.set_cons_succ]
        refine' wpAnyH_take (i := 6) (oi := { dst := some 18, op := Op.move (Operand.tmp 17), type := 4, pos := "span.go:81", after := #[{ on := 5, ground := Ground.data }, { on := 3, ground := Ground.chain }, { on := 3, ground := Ground.guard }], guard := some (3, false) }) (v := undef) rfl (by kernel_rfl) (by kernel_rfl) (by kernel_rfl) (fun _ _ _ h => h) (Or.inr ⟨by rfl, rfl⟩) hH1 ?ra6
        simp only [Act.put, List.setIfInBounds_toArray, List.set_cons_zero, List.set_cons_succ]
        refine' wpAnyH_take (i := 7) (oi := { dst := some 19, op := Op.move (Operand.tmp 0), type := 32, pos := "span.go:81", after := #[{ on := 6, ground := Ground.guard }], guard := some (6, true) }) (v := undef) rfl (by kernel_rfl) (by kernel_rfl) (by kernel_rfl) (fun _ _ _ h => h) (Or.inr ⟨by rfl, rfl⟩) hH1 ?ra7
        simp only [Act.put, List.setIfInBounds_toArray, List.set_cons_zero, List.set_cons_succ]
        refine' wpAnyH_take (i := 8) (oi := { dst := some 20, op := Op.move (Operand.tmp 3), type := 3, pos := "span.go:81", after := #[{ on := 6, ground := Ground.guard }], guard := some (6, true) }) (v := undef) rfl (by kernel_rfl) (by kernel_rfl) (by kernel_rfl) (fun _ _ _ h => h) (Or.inr ⟨by rfl, rfl⟩) hH1 ?ra8
        simp only [Act.put, List.setIfInBounds_toArray, List.set_cons_zero, List.set_cons_succ]
        refine' wpAnyH_take (i := 9) (oi := { dst := some 21, op := Op.binOp BinOp.sub 3 (Operand.tmp 20) (Operand.const (Value.int IntKind.i64 1)) 3, type := 3, pos := "span.go:81", after := #[{ on := 8, ground := Ground.data }, { on := 6, ground := Ground.guard }], guard := some (6, true) }) (v := undef) rfl (by kernel_rfl) (by kernel_rfl) (by kernel_rfl) (fun _ _ _ h => h) (Or.inr ⟨by rfl, rfl⟩) hH1 ?ra9
        simp only [Act.put, List.setIfInBounds_toArray, List.set_cons_zero, List.set_cons_succ]
        refine' wpAnyH_take (i := 10) (oi := { dst := some 22, op := Op.indexAddr 32 (Operand.tmp 19) (Operand.tmp 21), type := 0, pos := "span.go:81", after := #[{ on := 7, ground := Ground.data }, { on := 9, ground := Ground.data }, { on := 6, ground := Ground.guard }], guard := some (6, true) }) (v := undef) rfl (by kernel_rfl) (by kernel_rfl) (by kernel_rfl) (fun _ _ _ h => h) (Or.inr ⟨by rfl, rfl⟩) hH1 ?ra10
        simp only [Act.put, List.setIfInBounds_toArray, List.set_cons_zero, List.set_cons_succ]
        refine' wpAnyH_take (i := 11) (oi := { dst := some 23, op := Op.load 34 (Operand.tmp 22), type := 34, pos := "span.go:81", after := #[{ on := 10, ground := Ground.data }, { on := 6, ground := Ground.guard }], guard := some (6, true) }) (v := undef) rfl (by kernel_rfl) (by kernel_rfl) (by kernel_rfl) (fun _ _ _ h => h) (Or.inr ⟨by rfl, rfl⟩) hH1 ?ra11
        simp only [Act.put, List.setIfInBounds_toArray, List.set_cons_zero, List.set_cons_succ]
        refine' wpAnyH_take (i := 12) (oi := { dst := some 24, op := Op.load 34 (Operand.tmp 4), type := 34, pos := "span.go:81", after := #[{ on := 6, ground := Ground.guard }], guard := some (6, true) }) (v := undef) rfl (by kernel_rfl) (by kernel_rfl) (by kernel_rfl) (fun _ _ _ h => h) (Or.inr ⟨by rfl, rfl⟩) hH1 ?ra12
        simp only [Act.put, List.setIfInBounds_toArray, List.set_cons_zero, List.set_cons_succ]
        refine' wpAnyH_take (i := 13) (oi := { dst := some 25, op := Op.call { callee := Callee.value (Operand.func 36), args := #[Operand.tmp 23, Operand.tmp 24], argTypes := #[34, 34] }, type := 4, pos := "span.go:81", after := #[{ on := 11, ground := Ground.data }, { on := 12, ground := Ground.data }, { on := 6, ground := Ground.chain }, { on := 6, ground := Ground.guard }], guard := some (6, true) }) (v := undef) rfl (by kernel_rfl) (by kernel_rfl) (by kernel_rfl) (fun _ _ _ h => h) (Or.inr ⟨by rfl, rfl⟩) hH1 ?ra13
        simp only [Act.put, List.setIfInBounds_toArray, List.set_cons_zero, List.set_cons_succ]
        refine' wpAnyH_take (i := 14) (oi := { dst := some 26, op := Op.unOp UnOp.not 4 (Operand.tmp 25), type := 4, pos := "span.go:81", after := #[{ on := 13, ground := Ground.data }, { on := 6, ground := Ground.guard }], guard := some (6, true) }) (v := undef) rfl (by kernel_rfl) (by kernel_rfl) (by kernel_rfl) (fun _ _ _ h => h) (Or.inr ⟨by rfl, rfl⟩) hH1 ?ra14
        simp only [Act.put, List.setIfInBounds_toArray, List.set_cons_zero, List.set_cons_succ]
        refine' wpAnyH_take (i := 15) (oi := { dst := some 27, op := Op.pick (Operand.tmp 18) (Operand.tmp 26) (Operand.const (Value.bool false)), type := 4, pos := "span.go:81", after := #[{ on := 6, ground := Ground.data }, { on := 14, ground := Ground.data }, { on := 3, ground := Ground.guard }], guard := some (3, false) }) (v := undef) rfl (by kernel_rfl) (by kernel_rfl) (by kernel_rfl) (fun _ _ _ h => h) (Or.inr ⟨by rfl, rfl⟩) hH1 ?ra15
        simp only [Act.put, List.setIfInBounds_toArray, List.set_cons_zero, List.set_cons_succ]
        refine' wpAnyH_take (i := 16) (oi := { dst := some 28, op := Op.pick (Operand.tmp 15) (Operand.const (Value.bool true)) (Operand.tmp 27), type := 4, pos := "span.go:81", after := #[{ on := 3, ground := Ground.data }, { on := 15, ground := Ground.data }], guard := none }) (v := _) rfl (by kernel_rfl) (by kernel_rfl) (by kernel_rfl) (fun _ _ _ h => h) (Or.inl ⟨by rfl, ?hya16⟩) hH1 ?ra16
        case hya16 => (intro w' hSw; clear hSw; go_simp; try with_reducible rfl)
        simp only [Act.put, List.setIfInBounds_toArray, List.set_cons_zero, List.set_cons_succ]
        refine wpAnyH_done (by kernel_rfl) ?_ _
        refine NoPanic.normal ?_
        have HK := (k2.trans (Keep.refl (fun _ => False) w2).drew).trans k3
        clear hin hS
        go_wp2_with fail
        go_ret
        exact ⟨by rw [show formP none l = false from hF]; rfl, HK⟩
      | true =>
        cases i with
        | zero =>
          have hF : Hid (formP none l = formP (some x) (l.drop 1)) := by show formP none l = _; rw [hstep]; unfold okAt prev; rw [hb]; simp
          have hin := fun w => inBounds_any w x
          rw [hb] at hin
          have hS : ∀ w', Keep (fun _ => False) w2.drew w' → w'.cell? ⟨G, 0, none⟩ = some (.int .i64 x.lba) ∧ w'.cell? ⟨G, 1, none⟩ = some (.int .i64 x.len) ∧ w'.cell? ⟨G, 2, none⟩ = some (.int .i64 x.phys) := fun w' hk => by
            have L2 := Blk.keep L1 ((Keep.refl (fun _ => False) w2).drew.trans hk) (fun e => e)
            exact ⟨(L2 0 (by omega)).1, (L2 1 (by omega)).1, (L2 2 (by omega)).1⟩
          have hb' : Hid (inB x = true) := hb
          clear hstep hP2 L1 R2 hb
          refine wp_region_noPanic ?_
          refine wp_region_held_drew (S := fun w' => w'.cell? ⟨G, 0, none⟩ = some (.int .i64 x.lba) ∧ w'.cell? ⟨G, 1, none⟩ = some (.int .i64 x.len) ∧ w'.cell? ⟨G, 2, none⟩ = some (.int .i64 x.phys)) (by kernel_rfl) (hS _ (Keep.refl _ _)) (fun hH0 => ?_)
          refine' wpAnyH_take (i := 0) (oi := { dst := some 12, op := Op.load 34 (Operand.tmp 4), type := 34, pos := "span.go:81", after := #[], guard := none }) (v := _) rfl (by kernel_rfl) (by kernel_rfl) (by kernel_rfl) (fun _ _ _ h => h) (Or.inl ⟨by rfl, ?hyb0⟩) hH0 ?rb0
          case hyb0 => (intro w' hSw; obtain ⟨z0, z1, z2⟩ := hSw; go_simp; try with_reducible rfl)
          simp only [Act.put, List.setIfInBounds_toArray, List.set_cons_zero, List.set_cons_succ]
          refine wpAnyH_ready (rs := [1]) (by kernel_rfl) (by simp) ?_
          refine AllReadyH.cons (o := { dst := some 13, op := Op.call { callee := Callee.value (Operand.func 35), args := #[Operand.tmp 12], argTypes := #[34] }, type := 4, pos := "span.go:81", after := #[{ on := 0, ground := Ground.data }], guard := none }) rfl (fun K hK => ?_) AllReadyH.nil
          refine step_call_want (vs := #[.agg #[.int .i64 x.lba, .int .i64 x.len, .int .i64 x.phys]]) (R := fun u wz => u = .bool true ∧ Keep (fun _ => False) w2.drew wz) (by rfl) 35 #[Operand.tmp 12] #[34] rfl (by simp [Act.eval]) call35 (post_of (hin _)) ?_
          rintro _ w3 ⟨rfl, k3⟩
          refine hK.out _ _ (hS _ k3) (fun hH1 => ?_)
          clear hK K hH0
          simp only [Act.put, List.setIfInBounds_toArray, List.set_cons_zero, List.set_cons_succ]
          refine' wpAnyH_take (i := 2) (oi := { dst := some 14, op := Op.unOp UnOp.not 4 (Operand.tmp 13), type := 4, pos := "span.go:81", after := #[{ on := 1, ground := Ground.data }], guard := none }) (v := _) rfl (by kernel_rfl) (by kernel_rfl) (by kernel_rfl) (fun _ _ _ h => h) (Or.inl ⟨by rfl, ?hyb2⟩) hH1 ?rb2
          case hyb2 => (intro w' hSw; clear hSw; go_simp; try with_reducible rfl)
          simp only [Act.put, List.setIfInBounds_toArray, List.set_cons_zero, List.set_cons_succ]
          refine' wpAnyH_take (i := 3) (oi := { dst := some 15, op := Op.move (Operand.tmp 14), type := 4, pos := "span.go:81", after := #[{ on := 2, ground := Ground.data }, { on := 1, ground := Ground.chain }], guard := none }) (v := _) rfl (by kernel_rfl) (by kernel_rfl) (by kernel_rfl) (fun _ _ _ h => h) (Or.inl ⟨by rfl, ?hyb3⟩) hH1 ?rb3
          case hyb3 => (intro w' hSw; clear hSw; go_simp; try with_reducible rfl)
          simp only [Act.put, List.setIfInBounds_toArray, List.set_cons_zero, List.set_cons_succ]
          refine' wpAnyH_take (i := 4) (oi := { dst := some 16, op := Op.move (Operand.tmp 3), type := 3, pos := "span.go:81", after := #[{ on := 3, ground := Ground.guard }], guard := some (3, false) }) (v := _) rfl (by kernel_rfl) (by kernel_rfl) (by kernel_rfl) (fun _ _ _ h => h) (Or.inl ⟨by rfl, ?hyb4⟩) hH1 ?rb4
          case hyb4 => (intro w' hSw; clear hSw; go_simp; try with_reducible rfl)
          simp only [Act.put, List.setIfInBounds_toArray, List.set_cons_zero, List.set_cons_succ]
          refine' wpAnyH_take (i := 5) (oi := { dst := some 17, op := Op.binOp BinOp.gtr 3 (Operand.tmp 16) (Operand.const (Value.int IntKind.i64 0)) 3, type := 4, pos := "span.go:81", after := #[{ on := 4, ground := Ground.data }, { on := 3, ground := Ground.guard }], guard := some (3, false) }) (v := _) rfl (by kernel_rfl) (by kernel_rfl) (by kernel_rfl) (fun _ _ _ h => h) (Or.inl ⟨by rfl, ?hyb5⟩) hH1 ?rb5
          case hyb5 => (intro w' hSw; clear hSw; go_simp; try with_reducible rfl)
          simp only [Act.put, List.setIfInBounds_toArray, List.set_cons_zero, List.set_cons_succ]
          refine' wpAnyH_take (i := 6) (oi := { dst := some 18, op := Op.move (Operand.tmp 17), type := 4, pos := "span.go:81", after := #[{ on := 5, ground := Ground.data }, { on := 3, ground := Ground.chain }, { on := 3, ground := Ground.guard }], guard := some (3, false) }) (v := _) rfl (by kernel_rfl) (by kernel_rfl) (by kernel_rfl) (fun _ _ _ h => h) (Or.inl ⟨by rfl, ?hyb6⟩) hH1 ?rb6
          case hyb6 => (intro w' hSw; clear hSw; go_simp; try with_reducible rfl)
          simp only [Act.put, List.setIfInBounds_toArray, List.set_cons_zero, List.set_cons_succ]
          refine' wpAnyH_take (i := 7) (oi := { dst := some 19, op := Op.move (Operand.tmp 0), type := 32, pos := "span.go:81", after := #[{ on := 6, ground := Ground.guard }], guard := some (6, true) }) (v := undef) rfl (by kernel_rfl) (by kernel_rfl) (by kernel_rfl) (fun _ _ _ h => h) (Or.inr ⟨by rfl, rfl⟩) hH1 ?rb7
          simp only [Act.put, List.setIfInBounds_toArray, List.set_cons_zero, List.set_cons_succ]
          refine' wpAnyH_take (i := 8) (oi := { dst := some 20, op := Op.move (Operand.tmp 3), type := 3, pos := "span.go:81", after := #[{ on := 6, ground := Ground.guard }], guard := some (6, true) }) (v := undef) rfl (by kernel_rfl) (by kernel_rfl) (by kernel_rfl) (fun _ _ _ h => h) (Or.inr ⟨by rfl, rfl⟩) hH1 ?rb8
          simp only [Act.put, List.setIfInBounds_toArray, List.set_cons_zero, List.set_cons_succ]
          refine' wpAnyH_take (i := 9) (oi := { dst := some 21, op := Op.binOp BinOp.sub 3 (Operand.tmp 20) (Operand.const (Value.int IntKind.i64 1)) 3, type := 3, pos := "span.go:81", after := #[{ on := 8, ground := Ground.data }, { on := 6, ground := Ground.guard }], guard := some (6, true) }) (v := undef) rfl (by kernel_rfl) (by kernel_rfl) (by kernel_rfl) (fun _ _ _ h => h) (Or.inr ⟨by rfl, rfl⟩) hH1 ?rb9
          simp only [Act.put, List.setIfInBounds_toArray, List.set_cons_zero, List.set_cons_succ]
          refine' wpAnyH_take (i := 10) (oi := { dst := some 22, op := Op.indexAddr 32 (Operand.tmp 19) (Operand.tmp 21), type := 0, pos := "span.go:81", after := #[{ on := 7, ground := Ground.data }, { on := 9, ground := Ground.data }, { on := 6, ground := Ground.guard }], guard := some (6, true) }) (v := undef) rfl (by kernel_rfl) (by kernel_rfl) (by kernel_rfl) (fun _ _ _ h => h) (Or.inr ⟨by rfl, rfl⟩) hH1 ?rb10
          simp only [Act.put, List.setIfInBounds_toArray, List.set_cons_zero, List.set_cons_succ]
          refine' wpAnyH_take (i := 11) (oi := { dst := some 23, op := Op.load 34 (Operand.tmp 22), type := 34, pos := "span.go:81", after := #[{ on := 10, ground := Ground.data }, { on := 6, ground := Ground.guard }], guard := some (6, true) }) (v := undef) rfl (by kernel_rfl) (by kernel_rfl) (by kernel_rfl) (fun _ _ _ h => h) (Or.inr ⟨by rfl, rfl⟩) hH1 ?rb11
          simp only [Act.put, List.setIfInBounds_toArray, List.set_cons_zero, List.set_cons_succ]
          refine' wpAnyH_take (i := 12) (oi := { dst := some 24, op := Op.load 34 (Operand.tmp 4), type := 34, pos := "span.go:81", after := #[{ on := 6, ground := Ground.guard }], guard := some (6, true) }) (v := undef) rfl (by kernel_rfl) (by kernel_rfl) (by kernel_rfl) (fun _ _ _ h => h) (Or.inr ⟨by rfl, rfl⟩) hH1 ?rb12
          simp only [Act.put, List.setIfInBounds_toArray, List.set_cons_zero, List.set_cons_succ]
          refine' wpAnyH_take (i := 13) (oi := { dst := some 25, op := Op.call { callee := Callee.value (Operand.func 36), args := #[Operand.tmp 23, Operand.tmp 24], argTypes := #[34, 34] }, type := 4, pos := "span.go:81", after := #[{ on := 11, ground := Ground.data }, { on := 12, ground := Ground.data }, { on := 6, ground := Ground.chain }, { on := 6, ground := Ground.guard }], guard := some (6, true) }) (v := undef) rfl (by kernel_rfl) (by kernel_rfl) (by kernel_rfl) (fun _ _ _ h => h) (Or.inr ⟨by rfl, rfl⟩) hH1 ?rb13
          simp only [Act.put, List.setIfInBounds_toArray, List.set_cons_zero, List.set_cons_succ]
          refine' wpAnyH_take (i := 14) (oi := { dst := some 26, op := Op.unOp UnOp.not 4 (Operand.tmp 25), type := 4, pos := "span.go:81", after := #[{ on := 13, ground := Ground.data }, { on := 6, ground := Ground.guard }], guard := some (6, true) }) (v := undef) rfl (by kernel_rfl) (by kernel_rfl) (by kernel_rfl) (fun _ _ _ h => h) (Or.inr ⟨by rfl, rfl⟩) hH1 ?rb14
          simp only [Act.put, List.setIfInBounds_toArray, List.set_cons_zero, List.set_cons_succ]
          refine' wpAnyH_take (i := 15) (oi := { dst := some 27, op := Op.pick (Operand.tmp 18) (Operand.tmp 26) (Operand.const (Value.bool false)), type := 4, pos := "span.go:81", after := #[{ on := 6, ground := Ground.data }, { on := 14, ground := Ground.data }, { on := 3, ground := Ground.guard }], guard := some (3, false) }) (v := _) rfl (by kernel_rfl) (by kernel_rfl) (by kernel_rfl) (fun _ _ _ h => h) (Or.inl ⟨by rfl, ?hyb15⟩) hH1 ?rb15
          case hyb15 => (intro w' hSw; clear hSw; go_simp; try with_reducible rfl)
          simp only [Act.put, List.setIfInBounds_toArray, List.set_cons_zero, List.set_cons_succ]
          refine' wpAnyH_take (i := 16) (oi := { dst := some 28, op := Op.pick (Operand.tmp 15) (Operand.const (Value.bool true)) (Operand.tmp 27), type := 4, pos := "span.go:81", after := #[{ on := 3, ground := Ground.data }, { on := 15, ground := Ground.data }], guard := none }) (v := _) rfl (by kernel_rfl) (by kernel_rfl) (by kernel_rfl) (fun _ _ _ h => h) (Or.inl ⟨by rfl, ?hyb16⟩) hH1 ?rb16
          case hyb16 => (intro w' hSw; clear hSw; go_simp; try with_reducible rfl)
          simp only [Act.put, List.setIfInBounds_toArray, List.set_cons_zero, List.set_cons_succ]
          refine wpAnyH_done (by kernel_rfl) ?_ _
          refine NoPanic.normal ?_
          have HK := (k2.trans (Keep.refl (fun _ => False) w2).drew).trans k3
          clear hin hS
          go_wp2_with fail
          go_roundw
          case rel => exact ⟨0 + 1, hlt', by go_num, by show formP none l = _; rw [show formP none l = formP (some x) (l.drop 1) from hF, prev_succ, show l[0]? = some x from hx'], (fun y e => by rw [prev_succ, show l[0]? = some x from hx'] at e; injection e with e; subst e; exact hb'), HK⟩
          case measure => have : 0 < l.length := hlt'; simp [intOf]; omega
        | succ j =>
          obtain ⟨y, hy⟩ := get_rn (m := l) (i := j) (by have : j + 1 < l.length := hlt'; omega)
          have hyb : inB y = true := hP2 y hy
          have hF : Hid (formP none l = (folB y x && formP (some x) (l.drop (j + 1 + 1)))) := by show formP none l = _; rw [hstep]; unfold okAt; rw [prev_succ, hb, hy]; simp
          have hin := fun w => inBounds_any w x
          have hfo := fun w => mayFollow_any w y x hyb hb
          rw [hb] at hin
          have hS : ∀ w', Keep (fun _ => False) w2.drew w' → (w'.cell? ⟨G, 0, none⟩ = some (.int .i64 x.lba) ∧ w'.cell? ⟨G, 1, none⟩ = some (.int .i64 x.len) ∧ w'.cell? ⟨G, 2, none⟩ = some (.int .i64 x.phys)) ∧ w'.cell? ⟨g, o + j * 3, none⟩ = some (.int .i64 y.lba) ∧ w'.cell? ⟨g, o + j * 3 + 1, none⟩ = some (.int .i64 y.len) ∧ w'.cell? ⟨g, o + j * 3 + 2, none⟩ = some (.int .i64 y.phys) := fun w' hk => by
            have kk := (Keep.refl (fun _ => False) w2).drew.trans hk
            have L2 := Blk.keep L1 kk (fun e => e)
            obtain ⟨g', o', eg, h1, h2, h3⟩ := (R2.more kk).at hy
            injection eg with eg; injection eg with e1 e2; subst e1; subst e2
            exact ⟨⟨(L2 0 (by omega)).1, (L2 1 (by omega)).1, (L2 2 (by omega)).1⟩, h1, h2, h3⟩
          have hb' : Hid (inB x = true) := hb
          have dj1 : IntKind.i64.wrap (((j + 1 : Nat) : Int) - 1) = (j : Int) := by rw [wrapI (by omega) (by omega)]; omega
          have dj4 := wrapI (x := (j : Int)) (by omega) (by omega)
          have dj2 : (0 : Int) < ((j + 1 : Nat) : Int) := by omega
          have dj3 : (j : Int) < (l.length : Int) := by omega
          clear hstep hP2 L1 R2 hb hyb hy
          cases hfb : folB y x with
          | false =>
            rw [hfb] at hfo hF
            clear hfb
            refine wp_region_noPanic ?_
            refine wp_region_held_drew (S := fun w' => (w'.cell? ⟨G, 0, none⟩ = some (.int .i64 x.lba) ∧ w'.cell? ⟨G, 1, none⟩ = some (.int .i64 x.len) ∧ w'.cell? ⟨G, 2, none⟩ = some (.int .i64 x.phys)) ∧ w'.cell? ⟨g, o + j * 3, none⟩ = some (.int .i64 y.lba) ∧ w'.cell? ⟨g, o + j * 3 + 1, none⟩ = some (.int .i64 y.len) ∧ w'.cell? ⟨g, o + j * 3 + 2, none⟩ = some (.int .i64 y.phys)) (by kernel_rfl) (hS _ (Keep.refl _ _)) (fun hH0 => ?_)
            refine' wpAnyH_take (i := 0) (oi := { dst := some 12, op := Op.load 34 (Operand.tmp 4), type := 34, pos := "span.go:81", after := #[], guard := none }) (v := _) rfl (by kernel_rfl) (by kernel_rfl) (by kernel_rfl) (fun _ _ _ h => h) (Or.inl ⟨by rfl, ?hyc0⟩) hH0 ?rc0
            case hyc0 => (intro w' hSw; obtain ⟨⟨z0, z1, z2⟩, y0, y1, y2⟩ := hSw; go_simp; try with_reducible rfl)
            simp only [Act.put, List.setIfInBounds_toArray, List.set_cons_zero, List.set_cons_succ]
            refine wpAnyH_ready (rs := [1]) (by kernel_rfl) (by simp) ?_
            refine AllReadyH.cons (o := { dst := some 13, op := Op.call { callee := Callee.value (Operand.func 35), args := #[Operand.tmp 12], argTypes := #[34] }, type := 4, pos := "span.go:81", after := #[{ on := 0, ground := Ground.data }], guard := none }) rfl (fun K hK => ?_) AllReadyH.nil
            refine step_call_want (vs := #[.agg #[.int .i64 x.lba, .int .i64 x.len, .int .i64 x.phys]]) (R := fun u wz => u = .bool true ∧ Keep (fun _ => False) w2.drew wz) (by rfl) 35 #[Operand.tmp 12] #[34] rfl (by simp [Act.eval]) call35 (post_of (hin _)) ?_
            rintro _ w3 ⟨rfl, k3⟩
            refine hK.out _ _ (hS _ k3) (fun hH1 => ?_)
            clear hK K hH0
            simp only [Act.put, List.setIfInBounds_toArray, List.set_cons_zero, List.set_cons_succ]
            refine' wpAnyH_take (i := 2) (oi := { dst := some 14, op := Op.unOp UnOp.not 4 (Operand.tmp 13), type := 4, pos := "span.go:81", after := #[{ on := 1, ground := Ground.data }], guard := none }) (v := _) rfl (by kernel_rfl) (by kernel_rfl) (by kernel_rfl) (fun _ _ _ h => h) (Or.inl ⟨by rfl, ?hyc2⟩) hH1 ?rc2
            case hyc2 => (intro w' hSw; clear hSw; go_simp; try with_reducible rfl)
            simp only [Act.put, List.setIfInBounds_toArray, List.set_cons_zero, List.set_cons_succ]
            refine' wpAnyH_take (i := 3) (oi := { dst := some 15, op := Op.move (Operand.tmp 14), type := 4, pos := "span.go:81", after := #[{ on := 2, ground := Ground.data }, { on := 1, ground := Ground.chain }], guard := none }) (v := _) rfl (by kernel_rfl) (by kernel_rfl) (by kernel_rfl) (fun _ _ _ h => h) (Or.inl ⟨by rfl, ?hyc3⟩) hH1 ?rc3
            case hyc3 => (intro w' hSw; clear hSw; go_simp; try with_reducible rfl)
            simp only [Act.put, List.setIfInBounds_toArray, List.set_cons_zero, List.set_cons_succ]
            refine' wpAnyH_take (i := 4) (oi := { dst := some 16, op := Op.move (Operand.tmp 3), type := 3, pos := "span.go:81", after := #[{ on := 3, ground := Ground.guard }], guard := some (3, false) }) (v := _) rfl (by kernel_rfl) (by kernel_rfl) (by kernel_rfl) (fun _ _ _ h => h) (Or.inl ⟨by rfl, ?hyc4⟩) hH1 ?rc4
            case hyc4 => (intro w' hSw; clear hSw; go_simp; try with_reducible rfl)
            simp only [Act.put, List.setIfInBounds_toArray, List.set_cons_zero, List.set_cons_succ]
            refine' wpAnyH_take (i := 5) (oi := { dst := some 17, op := Op.binOp BinOp.gtr 3 (Operand.tmp 16) (Operand.const (Value.int IntKind.i64 0)) 3, type := 4, pos := "span.go:81", after := #[{ on := 4, ground := Ground.data }, { on := 3, ground := Ground.guard }], guard := some (3, false) }) (v := _) rfl (by kernel_rfl) (by kernel_rfl) (by kernel_rfl) (fun _ _ _ h => h) (Or.inl ⟨by rfl, ?hyc5⟩) hH1 ?rc5
            case hyc5 => (intro w' hSw; clear hSw; go_simp; try with_reducible rfl)
            simp only [Act.put, List.setIfInBounds_toArray, List.set_cons_zero, List.set_cons_succ]
            refine' wpAnyH_take (i := 6) (oi := { dst := some 18, op := Op.move (Operand.tmp 17), type := 4, pos := "span.go:81", after := #[{ on := 5, ground := Ground.data }, { on := 3, ground := Ground.chain }, { on := 3, ground := Ground.guard }], guard := some (3, false) }) (v := _) rfl (by kernel_rfl) (by kernel_rfl) (by kernel_rfl) (fun _ _ _ h => h) (Or.inl ⟨by rfl, ?hyc6⟩) hH1 ?rc6
            case hyc6 => (intro w' hSw; clear hSw; go_simp; try with_reducible rfl)
            simp only [Act.put, List.setIfInBounds_toArray, List.set_cons_zero, List.set_cons_succ]
            refine' wpAnyH_take (i := 7) (oi := { dst := some 19, op := Op.move (Operand.tmp 0), type := 32, pos := "span.go:81", after := #[{ on := 6, ground := Ground.guard }], guard := some (6, true) }) (v := _) rfl (by kernel_rfl) (by kernel_rfl) (by kernel_rfl) (fun _ _ _ h => h) (Or.inl ⟨by rfl, ?hyc7⟩) hH1 ?rc7
            case hyc7 => (intro w' hSw; clear hSw; go_simp; try with_reducible rfl)
            simp only [Act.put, List.setIfInBounds_toArray, List.set_cons_zero, List.set_cons_succ]
            refine' wpAnyH_take (i := 8) (oi := { dst := some 20, op := Op.move (Operand.tmp 3), type := 3, pos := "span.go:81", after := #[{ on := 6, ground := Ground.guard }], guard := some (6, true) }) (v := _) rfl (by kernel_rfl) (by kernel_rfl) (by kernel_rfl) (fun _ _ _ h => h) (Or.inl ⟨by rfl, ?hyc8⟩) hH1 ?rc8
            case hyc8 => (intro w' hSw; clear hSw; go_simp; try with_reducible rfl)
            simp only [Act.put, List.setIfInBounds_toArray, List.set_cons_zero, List.set_cons_succ]
            refine' wpAnyH_take (i := 9) (oi := { dst := some 21, op := Op.binOp BinOp.sub 3 (Operand.tmp 20) (Operand.const (Value.int IntKind.i64 1)) 3, type := 3, pos := "span.go:81", after := #[{ on := 8, ground := Ground.data }, { on := 6, ground := Ground.guard }], guard := some (6, true) }) (v := _) rfl (by kernel_rfl) (by kernel_rfl) (by kernel_rfl) (fun _ _ _ h => h) (Or.inl ⟨by rfl, ?hyc9⟩) hH1 ?rc9
            case hyc9 => (intro w' hSw; clear hSw; go_simp; try with_reducible rfl)
            simp only [Act.put, List.setIfInBounds_toArray, List.set_cons_zero, List.set_cons_succ]
            refine' wpAnyH_take (i := 10) (oi := { dst := some 22, op := Op.indexAddr 32 (Operand.tmp 19) (Operand.tmp 21), type := 0, pos := "span.go:81", after := #[{ on := 7, ground := Ground.data }, { on := 9, ground := Ground.data }, { on := 6, ground := Ground.guard }], guard := some (6, true) }) (v := _) rfl (by kernel_rfl) (by kernel_rfl) (by kernel_rfl) (fun _ _ _ h => h) (Or.inl ⟨by rfl, ?hyc10⟩) hH1 ?rc10
            case hyc10 => (intro w' hSw; clear hSw; go_simp; try with_reducible rfl)
            simp only [Act.put, List.setIfInBounds_toArray, List.set_cons_zero, List.set_cons_succ]
            refine' wpAnyH_take (i := 11) (oi := { dst := some 23, op := Op.load 34 (Operand.tmp 22), type := 34, pos := "span.go:81", after := #[{ on := 10, ground := Ground.data }, { on := 6, ground := Ground.guard }], guard := some (6, true) }) (v := _) rfl (by kernel_rfl) (by kernel_rfl) (by kernel_rfl) (fun _ _ _ h => h) (Or.inl ⟨by rfl, ?hyc11⟩) hH1 ?rc11
            case hyc11 => (intro w' hSw; obtain ⟨⟨z0, z1, z2⟩, y0, y1, y2⟩ := hSw; go_simp; try with_reducible rfl)
            simp only [Act.put, List.setIfInBounds_toArray, List.set_cons_zero, List.set_cons_succ]
            refine' wpAnyH_take (i := 12) (oi := { dst := some 24, op := Op.load 34 (Operand.tmp 4), type := 34, pos := "span.go:81", after := #[{ on := 6, ground := Ground.guard }], guard := some (6, true) }) (v := _) rfl (by kernel_rfl) (by kernel_rfl) (by kernel_rfl) (fun _ _ _ h => h) (Or.inl ⟨by rfl, ?hyc12⟩) hH1 ?rc12
            case hyc12 => (intro w' hSw; obtain ⟨⟨z0, z1, z2⟩, y0, y1, y2⟩ := hSw; go_simp; try with_reducible rfl)
            simp only [Act.put, List.setIfInBounds_toArray, List.set_cons_zero, List.set_cons_succ]
            refine wpAnyH_ready (rs := [13]) (by kernel_rfl) (by simp) ?_
            refine AllReadyH.cons (o := { dst := some 25, op := Op.call { callee := Callee.value (Operand.func 36), args := #[Operand.tmp 23, Operand.tmp 24], argTypes := #[34, 34] }, type := 4, pos := "span.go:81", after := #[{ on := 11, ground := Ground.data }, { on := 12, ground := Ground.data }, { on := 6, ground := Ground.chain }, { on := 6, ground := Ground.guard }], guard := some (6, true) }) rfl (fun K hK => ?_) AllReadyH.nil
            refine step_call_want (vs := #[.agg #[.int .i64 y.lba, .int .i64 y.len, .int .i64 y.phys], .agg #[.int .i64 x.lba, .int .i64 x.len, .int .i64 x.phys]]) (R := fun u wz => u = .bool false ∧ Keep (fun _ => False) w3 wz) (by rfl) 36 #[Operand.tmp 23, Operand.tmp 24] #[34, 34] rfl (by simp [Act.eval]) call36 (post_of (hfo _)) ?_
            rintro _ w4 ⟨rfl, k4⟩
            refine hK.out _ _ (hS _ (k3.trans k4)) (fun hH2 => ?_)
            clear hK K hH1
            simp only [Act.put, List.setIfInBounds_toArray, List.set_cons_zero, List.set_cons_succ]
            refine' wpAnyH_take (i := 14) (oi := { dst := some 26, op := Op.unOp UnOp.not 4 (Operand.tmp 25), type := 4, pos := "span.go:81", after := #[{ on := 13, ground := Ground.data }, { on := 6, ground := Ground.guard }], guard := some (6, true) }) (v := _) rfl (by kernel_rfl) (by kernel_rfl) (by kernel_rfl) (fun _ _ _ h => h) (Or.inl ⟨by rfl, ?hyc14⟩) hH2 ?rc14
            case hyc14 => (intro w' hSw; clear hSw; go_simp; try with_reducible rfl)
            simp only [Act.put, List.setIfInBounds_toArray, List.set_cons_zero, List.set_cons_succ]
            refine' wpAnyH_take (i := 15) (oi := { dst := some 27, op := Op.pick (Operand.tmp 18) (Operand.tmp 26) (Operand.const (Value.bool false)), type := 4, pos := "span.go:81", after := #[{ on := 6, ground := Ground.data }, { on := 14, ground := Ground.data }, { on := 3, ground := Ground.guard }], guard := some (3, false) }) (v := _) rfl (by kernel_rfl) (by kernel_rfl) (by kernel_rfl) (fun _ _ _ h => h) (Or.inl ⟨by rfl, ?hyc15⟩) hH2 ?rc15
            case hyc15 => (intro w' hSw; clear hSw; go_simp; try with_reducible rfl)
            simp only [Act.put, List.setIfInBounds_toArray, List.set_cons_zero, List.set_cons_succ]
            refine' wpAnyH_take (i := 16) (oi := { dst := some 28, op := Op.pick (Operand.tmp 15) (Operand.const (Value.bool true)) (Operand.tmp 27), type := 4, pos := "span.go:81", after := #[{ on := 3, ground := Ground.data }, { on := 15, ground := Ground.data }], guard := none }) (v := _) rfl (by kernel_rfl) (by kernel_rfl) (by kernel_rfl) (fun _ _ _ h => h) (Or.inl ⟨by rfl, ?hyc16⟩) hH2 ?rc16
            case hyc16 => (intro w' hSw; clear hSw; go_simp; try with_reducible rfl)
            simp only [Act.put, List.setIfInBounds_toArray, List.set_cons_zero, List.set_cons_succ]
            refine wpAnyH_done (by kernel_rfl) ?_ _
            refine NoPanic.normal ?_
            have HK := ((k2.trans (Keep.refl (fun _ => False) w2).drew).trans k3).trans k4
            clear hin hS hfo
            go_wp2_with fail
            go_ret
            exact ⟨by rw [show formP none l = _ from hF]; rfl, HK⟩
          | true =>
            rw [hfb] at hfo hF
            clear hfb
            refine wp_region_noPanic ?_
            refine wp_region_held_drew (S := fun w' => (w'.cell? ⟨G, 0, none⟩ = some (.int .i64 x.lba) ∧ w'.cell? ⟨G, 1, none⟩ = some (.int .i64 x.len) ∧ w'.cell? ⟨G, 2, none⟩ = some (.int .i64 x.phys)) ∧ w'.cell? ⟨g, o + j * 3, none⟩ = some (.int .i64 y.lba) ∧ w'.cell? ⟨g, o + j * 3 + 1, none⟩ = some (.int .i64 y.len) ∧ w'.cell? ⟨g, o + j * 3 + 2, none⟩ = some (.int .i64 y.phys)) (by kernel_rfl) (hS _ (Keep.refl _ _)) (fun hH0 => ?_)
            refine' wpAnyH_take (i := 0) (oi := { dst := some 12, op := Op.load 34 (Operand.tmp 4), type := 34, pos := "span.go:81", after := #[], guard := none }) (v := _) rfl (by kernel_rfl) (by kernel_rfl) (by kernel_rfl) (fun _ _ _ h => h) (Or.inl ⟨by rfl, ?hyd0⟩) hH0 ?rd0
            case hyd0 => (intro w' hSw; obtain ⟨⟨z0, z1, z2⟩, y0, y1, y2⟩ := hSw; go_simp; try with_reducible rfl)
            simp only [Act.put, List.setIfInBounds_toArray, List.set_cons_zero, List.set_cons_succ]
            refine wpAnyH_ready (rs := [1]) (by kernel_rfl) (by simp) ?_
            refine AllReadyH.cons (o := { dst := some 13, op := Op.call { callee := Callee.value (Operand.func 35), args := #[Operand.tmp 12], argTypes := #[34] }, type := 4, pos := "span.go:81", after := #[{ on := 0, ground := Ground.data }], guard := none }) rfl (fun K hK => ?_) AllReadyH.nil
            refine step_call_want (vs := #[.agg #[.int .i64 x.lba, .int .i64 x.len, .int .i64 x.phys]]) (R := fun u wz => u = .bool true ∧ Keep (fun _ => False) w2.drew wz) (by rfl) 35 #[Operand.tmp 12] #[34] rfl (by simp [Act.eval]) call35 (post_of (hin _)) ?_
            rintro _ w3 ⟨rfl, k3⟩
            refine hK.out _ _ (hS _ k3) (fun hH1 => ?_)
            clear hK K hH0
            simp only [Act.put, List.setIfInBounds_toArray, List.set_cons_zero, List.set_cons_succ]
            refine' wpAnyH_take (i := 2) (oi := { dst := some 14, op := Op.unOp UnOp.not 4 (Operand.tmp 13), type := 4, pos := "span.go:81", after := #[{ on := 1, ground := Ground.data }], guard := none }) (v := _) rfl (by kernel_rfl) (by kernel_rfl) (by kernel_rfl) (fun _ _ _ h => h) (Or.inl ⟨by rfl, ?hyd2⟩) hH1 ?rd2
            case hyd2 => (intro w' hSw; clear hSw; go_simp; try with_reducible rfl)
            simp only [Act.put, List.setIfInBounds_toArray, List.set_cons_zero, List.set_cons_succ]
            refine' wpAnyH_take (i := 3) (oi := { dst := some 15, op := Op.move (Operand.tmp 14), type := 4, pos := "span.go:81", after := #[{ on := 2, ground := Ground.data }, { on := 1, ground := Ground.chain }], guard := none }) (v := _) rfl (by kernel_rfl) (by kernel_rfl) (by kernel_rfl) (fun _ _ _ h => h) (Or.inl ⟨by rfl, ?hyd3⟩) hH1 ?rd3
            case hyd3 => (intro w' hSw; clear hSw; go_simp; try with_reducible rfl)
            simp only [Act.put, List.setIfInBounds_toArray, List.set_cons_zero, List.set_cons_succ]
            refine' wpAnyH_take (i := 4) (oi := { dst := some 16, op := Op.move (Operand.tmp 3), type := 3, pos := "span.go:81", after := #[{ on := 3, ground := Ground.guard }], guard := some (3, false) }) (v := _) rfl (by kernel_rfl) (by kernel_rfl) (by kernel_rfl) (fun _ _ _ h => h) (Or.inl ⟨by rfl, ?hyd4⟩) hH1 ?rd4
            case hyd4 => (intro w' hSw; clear hSw; go_simp; try with_reducible rfl)
            simp only [Act.put, List.setIfInBounds_toArray, List.set_cons_zero, List.set_cons_succ]
            refine' wpAnyH_take (i := 5) (oi := { dst := some 17, op := Op.binOp BinOp.gtr 3 (Operand.tmp 16) (Operand.const (Value.int IntKind.i64 0)) 3, type := 4, pos := "span.go:81", after := #[{ on := 4, ground := Ground.data }, { on := 3, ground := Ground.guard }], guard := some (3, false) }) (v := _) rfl (by kernel_rfl) (by kernel_rfl) (by kernel_rfl) (fun _ _ _ h => h) (Or.inl ⟨by rfl, ?hyd5⟩) hH1 ?rd5
            case hyd5 => (intro w' hSw; clear hSw; go_simp; try with_reducible rfl)
            simp only [Act.put, List.setIfInBounds_toArray, List.set_cons_zero, List.set_cons_succ]
            refine' wpAnyH_take (i := 6) (oi := { dst := some 18, op := Op.move (Operand.tmp 17), type := 4, pos := "span.go:81", after := #[{ on := 5, ground := Ground.data }, { on := 3, ground := Ground.chain }, { on := 3, ground := Ground.guard }], guard := some (3, false) }) (v := _) rfl (by kernel_rfl) (by kernel_rfl) (by kernel_rfl) (fun _ _ _ h => h) (Or.inl ⟨by rfl, ?hyd6⟩) hH1 ?rd6
            case hyd6 => (intro w' hSw; clear hSw; go_simp; try with_reducible rfl)
            simp only [Act.put, List.setIfInBounds_toArray, List.set_cons_zero, List.set_cons_succ]
            refine' wpAnyH_take (i := 7) (oi := { dst := some 19, op := Op.move (Operand.tmp 0), type := 32, pos := "span.go:81", after := #[{ on := 6, ground := Ground.guard }], guard := some (6, true) }) (v := _) rfl (by kernel_rfl) (by kernel_rfl) (by kernel_rfl) (fun _ _ _ h => h) (Or.inl ⟨by rfl, ?hyd7⟩) hH1 ?rd7
            case hyd7 => (intro w' hSw; clear hSw; go_simp; try with_reducible rfl)
            simp only [Act.put, List.setIfInBounds_toArray, List.set_cons_zero, List.set_cons_succ]
            refine' wpAnyH_take (i := 8) (oi := { dst := some 20, op := Op.move (Operand.tmp 3), type := 3, pos := "span.go:81", after := #[{ on := 6, ground := Ground.guard }], guard := some (6, true) }) (v := _) rfl (by kernel_rfl) (by kernel_rfl) (by kernel_rfl) (fun _ _ _ h => h) (Or.inl ⟨by rfl, ?hyd8⟩) hH1 ?rd8
            case hyd8 => (intro w' hSw; clear hSw; go_simp; try with_reducible rfl)
            simp only [Act.put, List.setIfInBounds_toArray, List.set_cons_zero, List.set_cons_succ]
            refine' wpAnyH_take (i := 9) (oi := { dst := some 21, op := Op.binOp BinOp.sub 3 (Operand.tmp 20) (Operand.const (Value.int IntKind.i64 1)) 3, type := 3, pos := "span.go:81", after := #[{ on := 8, ground := Ground.data }, { on := 6, ground := Ground.guard }], guard := some (6, true) }) (v := _) rfl (by kernel_rfl) (by kernel_rfl) (by kernel_rfl) (fun _ _ _ h => h) (Or.inl ⟨by rfl, ?hyd9⟩) hH1 ?rd9
            case hyd9 => (intro w' hSw; clear hSw; go_simp; try with_reducible rfl)
            simp only [Act.put, List.setIfInBounds_toArray, List.set_cons_zero, List.set_cons_succ]
            refine' wpAnyH_take (i := 10) (oi := { dst := some 22, op := Op.indexAddr 32 (Operand.tmp 19) (Operand.tmp 21), type := 0, pos := "span.go:81", after := #[{ on := 7, ground := Ground.data }, { on := 9, ground := Ground.data }, { on := 6, ground := Ground.guard }], guard := some (6, true) }) (v := _) rfl (by kernel_rfl) (by kernel_rfl) (by kernel_rfl) (fun _ _ _ h => h) (Or.inl ⟨by rfl, ?hyd10⟩) hH1 ?rd10
            case hyd10 => (intro w' hSw; clear hSw; go_simp; try with_reducible rfl)
            simp only [Act.put, List.setIfInBounds_toArray, List.set_cons_zero, List.set_cons_succ]
            refine' wpAnyH_take (i := 11) (oi := { dst := some 23, op := Op.load 34 (Operand.tmp 22), type := 34, pos := "span.go:81", after := #[{ on := 10, ground := Ground.data }, { on := 6, ground := Ground.guard }], guard := some (6, true) }) (v := _) rfl (by kernel_rfl) (by kernel_rfl) (by kernel_rfl) (fun _ _ _ h => h) (Or.inl ⟨by rfl, ?hyd11⟩) hH1 ?rd11
            case hyd11 => (intro w' hSw; obtain ⟨⟨z0, z1, z2⟩, y0, y1, y2⟩ := hSw; go_simp; try with_reducible rfl)
            simp only [Act.put, List.setIfInBounds_toArray, List.set_cons_zero, List.set_cons_succ]
            refine' wpAnyH_take (i := 12) (oi := { dst := some 24, op := Op.load 34 (Operand.tmp 4), type := 34, pos := "span.go:81", after := #[{ on := 6, ground := Ground.guard }], guard := some (6, true) }) (v := _) rfl (by kernel_rfl) (by kernel_rfl) (by kernel_rfl) (fun _ _ _ h => h) (Or.inl ⟨by rfl, ?hyd12⟩) hH1 ?rd12
            case hyd12 => (intro w' hSw; obtain ⟨⟨z0, z1, z2⟩, y0, y1, y2⟩ := hSw; go_simp; try with_reducible rfl)
            simp only [Act.put, List.setIfInBounds_toArray, List.set_cons_zero, List.set_cons_succ]
            refine wpAnyH_ready (rs := [13]) (by kernel_rfl) (by simp) ?_
            refine AllReadyH.cons (o := { dst := some 25, op := Op.call { callee := Callee.value (Operand.func 36), args := #[Operand.tmp 23, Operand.tmp 24], argTypes := #[34, 34] }, type := 4, pos := "span.go:81", after := #[{ on := 11, ground := Ground.data }, { on := 12, ground := Ground.data }, { on := 6, ground := Ground.chain }, { on := 6, ground := Ground.guard }], guard := some (6, true) }) rfl (fun K hK => ?_) AllReadyH.nil
            refine step_call_want (vs := #[.agg #[.int .i64 y.lba, .int .i64 y.len, .int .i64 y.phys], .agg #[.int .i64 x.lba, .int .i64 x.len, .int .i64 x.phys]]) (R := fun u wz => u = .bool true ∧ Keep (fun _ => False) w3 wz) (by rfl) 36 #[Operand.tmp 23, Operand.tmp 24] #[34, 34] rfl (by simp [Act.eval]) call36 (post_of (hfo _)) ?_
            rintro _ w4 ⟨rfl, k4⟩
            refine hK.out _ _ (hS _ (k3.trans k4)) (fun hH2 => ?_)
            clear hK K hH1
            simp only [Act.put, List.setIfInBounds_toArray, List.set_cons_zero, List.set_cons_succ]
            refine' wpAnyH_take (i := 14) (oi := { dst := some 26, op := Op.unOp UnOp.not 4 (Operand.tmp 25), type := 4, pos := "span.go:81", after := #[{ on := 13, ground := Ground.data }, { on := 6, ground := Ground.guard }], guard := some (6, true) }) (v := _) rfl (by kernel_rfl) (by kernel_rfl) (by kernel_rfl) (fun _ _ _ h => h) (Or.inl ⟨by rfl, ?hyd14⟩) hH2 ?rd14
            case hyd14 => (intro w' hSw; clear hSw; go_simp; try with_reducible rfl)
            simp only [Act.put, List.setIfInBounds_toArray, List.set_cons_zero, List.set_cons_succ]
            refine' wpAnyH_take (i := 15) (oi := { dst := some 27, op := Op.pick (Operand.tmp 18) (Operand.tmp 26) (Operand.const (Value.bool false)), type := 4, pos := "span.go:81", after := #[{ on := 6, ground := Ground.data }, { on := 14, ground := Ground.data }, { on := 3, ground := Ground.guard }], guard := some (3, false) }) (v := _) rfl (by kernel_rfl) (by kernel_rfl) (by kernel_rfl) (fun _ _ _ h => h) (Or.inl ⟨by rfl, ?hyd15⟩) hH2 ?rd15
            case hyd15 => (intro w' hSw; clear hSw; go_simp; try with_reducible rfl)
            simp only [Act.put, List.setIfInBounds_toArray, List.set_cons_zero, List.set_cons_succ]
            refine' wpAnyH_take (i := 16) (oi := { dst := some 28, op := Op.pick (Operand.tmp 15) (Operand.const (Value.bool true)) (Operand.tmp 27), type := 4, pos := "span.go:81", after := #[{ on := 3, ground := Ground.data }, { on := 15, ground := Ground.data }], guard := none }) (v := _) rfl (by kernel_rfl) (by kernel_rfl) (by kernel_rfl) (fun _ _ _ h => h) (Or.inl ⟨by rfl, ?hyd16⟩) hH2 ?rd16
            case hyd16 => (intro w' hSw; clear hSw; go_simp; try with_reducible rfl)
            simp only [Act.put, List.setIfInBounds_toArray, List.set_cons_zero, List.set_cons_succ]
            refine wpAnyH_done (by kernel_rfl) ?_ _
            refine NoPanic.normal ?_
            have HK := ((k2.trans (Keep.refl (fun _ => False) w2).drew).trans k3).trans k4
            clear hin hS hfo
            go_wp2_with fail
            go_roundw
            case rel => exact ⟨j + 1 + 1, hlt', by go_num, by show formP none l = _; rw [show formP none l = _ from hF, prev_succ, show l[j + 1]? = some x from hx']; rfl, (fun y e => by rw [prev_succ, show l[j + 1]? = some x from hx'] at e; injection e with e; subst e; exact hb'), HK⟩
            case measure => have : j + 1 < l.length := hlt'; simp [intOf]; omega
    · have di : ¬ (i : Int) < (l.length : Int) := by omega
      have he : Hid (formP none l = true) := by
        show formP none l = true
        rw [show formP none l = formP (prev l i) (l.drop i) from hI, List.drop_of_length_le (by omega)]
        cases prev l i <;> rfl
      clear hlt hR hI hP
      go_wp2_with fail
      go_ret
      exact ⟨by rw [show formP none l = true from he]; rfl, k1⟩
end Tg
end Go.Proofs.Ytkddonmddgfpnaa
