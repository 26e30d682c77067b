/-
  What the small functions of span do: a map made, told apart, changed through the interface.
-/
import Derived.Test.YtkddonmddgfpnaaSp
import Derived.Stop.Asserts
namespace Go.Proofs.Ytkddonmddgfpnaa
open Go.ChangeShapes Go.WideShapes Go.ChangeAt Go.RowKit
namespace Tg

/-- A map as a value of the interface. -/
def mapV : Bool → Nat → Value
  | false, q => .iface 44 (.pointer (some ⟨q, 0, none⟩))
  | true, q => .iface 47 (.pointer (some ⟨q, 0, none⟩))

set_option maxRecDepth 100000 in
theorem orNilF_yes (w : World) (q : Nat) : Calls Try.prog 27 #[.pointer (some ⟨q, 0, none⟩), .int .i64 0] w fun e w' => e = .returned (.tuple #[mapV true q, .int .i64 0]) ∧ w' = w := by
  unfold mapV
  go_enter Try.func27, Try.ntmps27
  go_wp2_with fail
  go_ret2
  exact ⟨rfl, rfl⟩
set_option maxRecDepth 100000 in
theorem orNilR_yes (w : World) (q : Nat) : Calls Try.prog 29 #[.pointer (some ⟨q, 0, none⟩), .int .i64 0] w fun e w' => e = .returned (.tuple #[mapV false q, .int .i64 0]) ∧ w' = w := by
  unfold mapV
  go_enter Try.func29, Try.ntmps29
  go_wp2_with fail
  go_ret2
  exact ⟨rfl, rfl⟩
set_option maxRecDepth 100000 in
theorem orNilF_no (w : World) : Calls Try.prog 27 #[.pointer none, .int .i64 1] w fun e w' => e = .returned (.tuple #[.nilIface, .int .i64 1]) ∧ w' = w := by
  go_enter Try.func27, Try.ntmps27
  go_wp2_with fail
  go_ret2
  exact ⟨rfl, rfl⟩
set_option maxRecDepth 100000 in
theorem orNilR_no (w : World) : Calls Try.prog 29 #[.pointer none, .int .i64 1] w fun e w' => e = .returned (.tuple #[.nilIface, .int .i64 1]) ∧ w' = w := by
  go_enter Try.func29, Try.ntmps29
  go_wp2_with fail
  go_ret2
  exact ⟨rfl, rfl⟩
set_option maxRecDepth 100000 in
/-- New, sizes that may be. -/
theorem newS (fl : Bool) {w : World} {C N : Nat} (c1 : 1 ≤ C) (c2 : C ≤ 512) (n1 : 1 ≤ N) (n2 : N ≤ 512) :
    Calls Try.prog 10 #[.bool fl, .int .i64 (C : Int), .int .i64 (N : Int)] w fun e w' => ∃ q S, e = .returned (.tuple #[mapV fl q, .int .i64 0]) ∧ Sp w w' fl q S (fun _ => False) N C (List.replicate C (-1)) := by
  have hlen : (refR (List.replicate C (-1)) C).length ≤ N := by
    have := (of_nil C).runs
    rw [List.length_replicate] at this
    rw [← this]; simp
  cases fl with
  | true =>
    have hn := newF_any (B := fun x => w.heap.size ≤ x ∧ ¬ False) (w := w) (fun x hx => ⟨hx, fun e => e⟩) c1 c2 n1 n2
    go_enter Try.func10, Try.ntmps10
    go_wp2_with (first | (go_at_call 28; refine hn.mono ?_; rintro e w1 ⟨q, rfl, F1, k1⟩) | (go_at_call 27; refine (orNilF_yes _ _).mono ?_; rintro e w2 ⟨rfl, e2⟩; have e2 := e2.symm; subst e2))
    go_ret2
    exact ⟨q, _, rfl, Low.nil C, List.length_replicate, tab_nil C, c1, c2, n1, n2, hlen, k1, fun x hx => by subst hx; exact ⟨F1.bq.1, F1.lt, fun e => e⟩, fun x e => e.elim, rfl, F1⟩
  | false =>
    have hn := newMap_any (w := w) c1 c2 n1 n2
    go_enter Try.func10, Try.ntmps10
    go_wp2_with (first | (go_at_call 30; refine hn.mono ?_; rintro e w1 ⟨q, b, p, k, rfl, M1⟩) | (go_at_call 29; refine (orNilR_yes _ _).mono ?_; rintro e w2 ⟨rfl, e2⟩; have e2 := e2.symm; subst e2))
    go_ret2
    have hb := M1.blocks
    have hl := M1.lt
    exact ⟨q, _, rfl, Low.nil C, List.length_replicate, tab_nil C, c1, c2, n1, n2, hlen, M1.keep, fun x hx => by
      rcases hx with rfl | rfl | rfl
      · exact ⟨hb.2.1, hl.2.1, fun e => e⟩
      · exact ⟨hb.2.2.1, hl.2.2.1, fun e => e⟩
      · exact ⟨hb.2.2.2, hl.2.2.2, fun e => e⟩, fun x e => e.elim, b, p, k, [], rfl, M1, of_nil C, fun e => e, fun e => e, fun e => e, fun e => e⟩
set_option maxRecDepth 100000 in
/-- New, sizes that may not be. -/
theorem newS_no (fl : Bool) {w : World} {c n : Int} (h : c < 1 ∨ 512 < c ∨ n < 1 ∨ 512 < n) :
    Calls Try.prog 10 #[.bool fl, .int .i64 c, .int .i64 n] w fun e w' => e = .returned (.tuple #[.nilIface, .int .i64 1]) ∧ Keep (fun _ => False) w w' := by
  cases fl with
  | true =>
    have hn := newF_no (w := w) h
    clear h
    go_enter Try.func10, Try.ntmps10
    go_wp2_with (first | (go_at_call 28; refine hn.mono ?_; rintro e w1 ⟨rfl, e1⟩; have e1 := e1.symm; subst e1) | (go_at_call 27; refine (orNilF_no _).mono ?_; rintro e w2 ⟨rfl, e2⟩; have e2 := e2.symm; subst e2))
    go_ret2
    exact ⟨rfl, Keep.refl _ _⟩
  | false =>
    have hn := newMap_no (w := w) h
    clear h
    go_enter Try.func10, Try.ntmps10
    go_wp2_with (first | (go_at_call 30; refine hn.mono ?_; rintro e w1 ⟨rfl, k1⟩) | (go_at_call 29; refine (orNilR_no _).mono ?_; rintro e w2 ⟨rfl, e2⟩; have e2 := e2.symm; subst e2))
    go_ret2
    exact ⟨rfl, k1⟩

/-- What Kind tells. -/
def kindV : Bool → Value
  | false => .string ⟨#[114, 117, 110, 115]⟩
  | true => .string ⟨#[102, 108, 97, 116]⟩
set_option maxRecDepth 100000 in
theorem kindOf_any (fl : Bool) (q : Nat) (w : World) : Calls Try.prog 31 #[mapV fl q] w fun e w' => e = .returned (kindV fl) ∧ w' = w := by
  cases fl with
  | false =>
    unfold mapV kindV
    have h1 : ∀ w : World, (Instr.typeAssert (.iface 44 (.pointer (some ⟨q, 0, none⟩))) 24 44 true).run Try.prog w = .ok (.tuple #[.pointer (some ⟨q, 0, none⟩), .bool true]) w := fun _ => by kernel_rfl
    go_enter Try.func31, Try.ntmps31
    go_wp2_with fail
    go_ret
    exact ⟨rfl, rfl⟩
  | true =>
    unfold mapV kindV
    have h1 : ∀ w : World, (Instr.typeAssert (.iface 47 (.pointer (some ⟨q, 0, none⟩))) 24 44 true).run Try.prog w = .ok (.tuple #[.pointer none, .bool false]) w := fun _ => by kernel_rfl
    have h2 : ∀ w : World, (Instr.typeAssert (.iface 47 (.pointer (some ⟨q, 0, none⟩))) 24 47 true).run Try.prog w = .ok (.tuple #[.pointer (some ⟨q, 0, none⟩), .bool true]) w := fun _ => by kernel_rfl
    go_enter Try.func31, Try.ntmps31
    go_wp2_with fail
    go_ret
    exact ⟨rfl, rfl⟩
set_option maxRecDepth 100000 in
theorem kind_any (fl : Bool) (q : Nat) (w : World) : Calls Try.prog 20 #[mapV fl q] w fun e w' => e = .returned (kindV fl) ∧ w' = w := by
  have h := kindOf_any fl q w
  cases fl with
  | false =>
    unfold mapV kindV at h ⊢
    go_enter Try.func20, Try.ntmps20
    go_wp2_with (go_at_call 31; refine h.mono ?_; rintro e w2 ⟨rfl, e2⟩; have e2 := e2.symm; subst e2)
    go_ret
    exact ⟨rfl, rfl⟩
  | true =>
    unfold mapV kindV at h ⊢
    go_enter Try.func20, Try.ntmps20
    go_wp2_with (go_at_call 31; refine h.mono ?_; rintro e w2 ⟨rfl, e2⟩; have e2 := e2.symm; subst e2)
    go_ret
    exact ⟨rfl, rfl⟩
/-- What Tree tells. -/
def treeV : Bool → Nat → Value
  | false, q => .tuple #[.pointer (some ⟨q, 0, none⟩), .bool true]
  | true, _ => .tuple #[.pointer none, .bool false]
/-- What Flat tells. -/
def flatV : Bool → Nat → Value
  | true, q => .tuple #[.pointer (some ⟨q, 0, none⟩), .bool true]
  | false, _ => .tuple #[.pointer none, .bool false]
set_option maxRecDepth 100000 in
theorem treeOf_any (fl : Bool) (q : Nat) (w : World) : Calls Try.prog 40 #[mapV fl q] w fun e w' => e = .returned (treeV fl q) ∧ w' = w := by
  cases fl with
  | false =>
    unfold mapV treeV
    have h1 : ∀ w : World, (Instr.typeAssert (.iface 44 (.pointer (some ⟨q, 0, none⟩))) 24 44 true).run Try.prog w = .ok (.tuple #[.pointer (some ⟨q, 0, none⟩), .bool true]) w := fun _ => by kernel_rfl
    go_enter Try.func40, Try.ntmps40
    go_wp2_with fail
    go_ret2
    exact ⟨rfl, rfl⟩
  | true =>
    unfold mapV treeV
    have h1 : ∀ w : World, (Instr.typeAssert (.iface 47 (.pointer (some ⟨q, 0, none⟩))) 24 44 true).run Try.prog w = .ok (.tuple #[.pointer none, .bool false]) w := fun _ => by kernel_rfl
    go_enter Try.func40, Try.ntmps40
    go_wp2_with fail
    go_ret2
    exact ⟨rfl, rfl⟩
set_option maxRecDepth 100000 in
theorem flatOf_any (fl : Bool) (q : Nat) (w : World) : Calls Try.prog 41 #[mapV fl q] w fun e w' => e = .returned (flatV fl q) ∧ w' = w := by
  cases fl with
  | false =>
    unfold mapV flatV
    have h1 : ∀ w : World, (Instr.typeAssert (.iface 44 (.pointer (some ⟨q, 0, none⟩))) 24 47 true).run Try.prog w = .ok (.tuple #[.pointer none, .bool false]) w := fun _ => by kernel_rfl
    go_enter Try.func41, Try.ntmps41
    go_wp2_with fail
    go_ret2
    exact ⟨rfl, rfl⟩
  | true =>
    unfold mapV flatV
    have h1 : ∀ w : World, (Instr.typeAssert (.iface 47 (.pointer (some ⟨q, 0, none⟩))) 24 47 true).run Try.prog w = .ok (.tuple #[.pointer (some ⟨q, 0, none⟩), .bool true]) w := fun _ => by kernel_rfl
    go_enter Try.func41, Try.ntmps41
    go_wp2_with fail
    go_ret2
    exact ⟨rfl, rfl⟩
set_option maxRecDepth 100000 in
theorem tree_any (fl : Bool) (q : Nat) (w : World) : Calls Try.prog 18 #[mapV fl q] w fun e w' => e = .returned (treeV fl q) ∧ w' = w := by
  have h := treeOf_any fl q w
  cases fl with
  | false =>
    unfold mapV treeV at h ⊢
    go_enter Try.func18, Try.ntmps18
    go_wp2_with (go_at_call 40; refine h.mono ?_; rintro e w2 ⟨rfl, e2⟩; have e2 := e2.symm; subst e2)
    go_ret2
    exact ⟨rfl, rfl⟩
  | true =>
    unfold mapV treeV at h ⊢
    go_enter Try.func18, Try.ntmps18
    go_wp2_with (go_at_call 40; refine h.mono ?_; rintro e w2 ⟨rfl, e2⟩; have e2 := e2.symm; subst e2)
    go_ret2
    exact ⟨rfl, rfl⟩
set_option maxRecDepth 100000 in
theorem flat_any (fl : Bool) (q : Nat) (w : World) : Calls Try.prog 19 #[mapV fl q] w fun e w' => e = .returned (flatV fl q) ∧ w' = w := by
  have h := flatOf_any fl q w
  cases fl with
  | false =>
    unfold mapV flatV at h ⊢
    go_enter Try.func19, Try.ntmps19
    go_wp2_with (go_at_call 41; refine h.mono ?_; rintro e w2 ⟨rfl, e2⟩; have e2 := e2.symm; subst e2)
    go_ret2
    exact ⟨rfl, rfl⟩
  | true =>
    unfold mapV flatV at h ⊢
    go_enter Try.func19, Try.ntmps19
    go_wp2_with (go_at_call 41; refine h.mono ?_; rintro e w2 ⟨rfl, e2⟩; have e2 := e2.symm; subst e2)
    go_ret2
    exact ⟨rfl, rfl⟩
set_option maxRecDepth 100000 in
theorem mustTreeOf_any (q : Nat) (w : World) : Calls Try.prog 44 #[mapV false q] w fun e w' => e = .returned (.pointer (some ⟨q, 0, none⟩)) ∧ w' = w := by
  unfold mapV
  have h1 : ∀ w : World, (Instr.typeAssert (.iface 44 (.pointer (some ⟨q, 0, none⟩))) 24 44 false).run Try.prog w = .ok (.pointer (some ⟨q, 0, none⟩)) w := fun _ => by kernel_rfl
  go_enter Try.func44, Try.ntmps44
  go_wp2_with fail
  go_ret
  exact ⟨rfl, rfl⟩
set_option maxRecDepth 100000 in
theorem mustTree_any (q : Nat) (w : World) : Calls Try.prog 23 #[mapV false q] w fun e w' => e = .returned (.pointer (some ⟨q, 0, none⟩)) ∧ w' = w := by
  have h := mustTreeOf_any q w
  unfold mapV at h ⊢
  go_enter Try.func23, Try.ntmps23
  go_wp2_with (go_at_call 44; refine h.mono ?_; rintro e w2 ⟨rfl, e2⟩; have e2 := e2.symm; subst e2)
  go_ret
  exact ⟨rfl, rfl⟩
set_option maxRecDepth 100000 in
theorem mClear44 (q : Nat) (w : World) : (method 257 44 (.pointer (some ⟨q, 0, none⟩)) "Clear").run Try.prog w = .ok (107, .pointer (some ⟨q, 0, none⟩)) w := by kernel_rfl
set_option maxRecDepth 100000 in
theorem mClear47 (q : Nat) (w : World) : (method 257 47 (.pointer (some ⟨q, 0, none⟩)) "Clear").run Try.prog w = .ok (111, .pointer (some ⟨q, 0, none⟩)) w := by kernel_rfl
set_option maxRecDepth 100000 in
theorem mSet44 (q : Nat) (w : World) : (method 257 44 (.pointer (some ⟨q, 0, none⟩)) "Set").run Try.prog w = .ok (46, .pointer (some ⟨q, 0, none⟩)) w := by kernel_rfl
set_option maxRecDepth 100000 in
theorem mSet47 (q : Nat) (w : World) : (method 257 47 (.pointer (some ⟨q, 0, none⟩)) "Set").run Try.prog w = .ok (117, .pointer (some ⟨q, 0, none⟩)) w := by kernel_rfl
set_option maxRecDepth 100000 in
theorem mRuns44 (q : Nat) (w : World) : (method 257 44 (.pointer (some ⟨q, 0, none⟩)) "Runs").run Try.prog w = .ok (21, .pointer (some ⟨q, 0, none⟩)) w := by kernel_rfl
set_option maxRecDepth 100000 in
theorem mRuns47 (q : Nat) (w : World) : (method 257 47 (.pointer (some ⟨q, 0, none⟩)) "Runs").run Try.prog w = .ok (116, .pointer (some ⟨q, 0, none⟩)) w := by kernel_rfl
set_option maxRecDepth 100000 in
theorem mCapacity44 (q : Nat) (w : World) : (method 257 44 (.pointer (some ⟨q, 0, none⟩)) "Capacity").run Try.prog w = .ok (106, .pointer (some ⟨q, 0, none⟩)) w := by kernel_rfl
set_option maxRecDepth 100000 in
theorem mCapacity47 (q : Nat) (w : World) : (method 257 47 (.pointer (some ⟨q, 0, none⟩)) "Capacity").run Try.prog w = .ok (110, .pointer (some ⟨q, 0, none⟩)) w := by kernel_rfl
set_option maxRecDepth 100000 in
theorem mMost44 (q : Nat) (w : World) : (method 257 44 (.pointer (some ⟨q, 0, none⟩)) "Most").run Try.prog w = .ok (61, .pointer (some ⟨q, 0, none⟩)) w := by kernel_rfl
set_option maxRecDepth 100000 in
theorem mMost47 (q : Nat) (w : World) : (method 257 47 (.pointer (some ⟨q, 0, none⟩)) "Most").run Try.prog w = .ok (114, .pointer (some ⟨q, 0, none⟩)) w := by kernel_rfl

theorem Chd.first {W w w1 : World} {fl : Bool} {q : Nat} {S T : Nat → Prop} {N C : Nat} {y : List Int × Int} {e : Ending} {w' : World} (h : Chd W w1 fl q S T N C y e w') (k : Keep (fun _ => False) w w1) : Chd W w fl q S T N C y e w' :=
  ⟨h.1, h.2.1, (k.mono (fun _ _ e => e.elim)).trans h.2.2⟩
set_option maxRecDepth 100000 in
/-- One change, by the interface. -/
theorem change_any {W w : World} {fl : Bool} {q N C : Nat} {S T : Nat → Prop} {t : List Int} (h : Sp W w fl q S T N C t) {x : Rn} (hl : x.lba ≤ 9223372036854775807) :
    Calls Try.prog 50 #[mapV fl q, .agg #[.int .i64 x.lba, .int .i64 x.len, .int .i64 x.phys]] w (Chd W w fl q S T N C (stepL N t x)) := by
  have k1 : Keep (fun _ => False) w (w.alloc (.cells #[.int .i64 x.lba, .int .i64 x.len, .int .i64 x.phys] 30)) := (Keep.refl _ _).alloc _
  have h1 := h.more k1
  have hv : stepL N t x = ((stepL N t x).1, (stepL N t x).2) := rfl
  by_cases c : x.phys = -1
  · have cb : (x.phys == -1) = true := by simp [c]
    have hc := h1.clear (lba := x.lba) (n := x.len) hl
    rw [show (⟨x.lba, x.len, -1⟩ : Rn) = x by rw [← c]] at hc
    have hc2 := hc.mono (fun e w' hD => Chd.first hD k1)
    unfold Chd at hc2 ⊢
    generalize stepL N t x = y at hc2 ⊢
    clear h h1 k1 hc hv c
    cases fl with
    | false =>
      unfold mapV
      have hm := mClear44 q
      unfold fClear at hc2
      go_enter Try.func50, Try.ntmps50
      go_wp2_with (go_at_call 107; refine hc2.mono ?_; rintro e w2 ⟨rfl, M2, k2⟩)
      go_ret
      exact ⟨rfl, M2, k2⟩
    | true =>
      unfold mapV
      have hm := mClear47 q
      unfold fClear at hc2
      go_enter Try.func50, Try.ntmps50
      go_wp2_with (go_at_call 111; refine hc2.mono ?_; rintro e w2 ⟨rfl, M2, k2⟩)
      go_ret
      exact ⟨rfl, M2, k2⟩
  · have cb : (x.phys == -1) = false := by simp [c]
    have hc := h1.set (x := x) hl c
    have hc2 := hc.mono (fun e w' hD => Chd.first hD k1)
    unfold Chd at hc2 ⊢
    generalize stepL N t x = y at hc2 ⊢
    clear h h1 k1 hc hv c
    cases fl with
    | false =>
      unfold mapV
      have hm := mSet44 q
      unfold fSet at hc2
      go_enter Try.func50, Try.ntmps50
      go_wp2_with (go_at_call 46; refine hc2.mono ?_; rintro e w2 ⟨rfl, M2, k2⟩)
      go_ret
      exact ⟨rfl, M2, k2⟩
    | true =>
      unfold mapV
      have hm := mSet47 q
      unfold fSet at hc2
      go_enter Try.func50, Try.ntmps50
      go_wp2_with (go_at_call 117; refine hc2.mono ?_; rintro e w2 ⟨rfl, M2, k2⟩)
      go_ret
      exact ⟨rfl, M2, k2⟩
end Tg
end Go.Proofs.Ytkddonmddgfpnaa
