/-
  What near answers: the runs that have a sector of a range, or end or begin at its ends.
-/
import Derived.Test.YtbdankhlbepjoaaOverW
import Derived.Deep.CutBlock
namespace Go.Proofs.Ytbdankhlbepjoaa
open Go.ChangeShapes Go.WideShapes Go.ChangeAt Go.RowKit
namespace Tg

/-- A row's length. -/
def slen : Value → Nat
  | .slice _ n _ => n
  | _ => 0

set_option maxRecDepth 100000 in
/-- One run more, and where the row then lies. -/
theorem Rr.appS {w0 w : World} {a : Option Addr} {cap : Nat} {m : List Rn} (h : Rr w0 w a cap m) (hl : m.length ≤ 100000) (x : Rn) :
    ∃ a' cap' w', (Builtin.append_ #[49, 49] 49 #[.slice a m.length cap, .slice (some ⟨w.heap.size, 0, none⟩) 1 1]).run Try.prog (w.alloc (.cells #[.int .i64 x.lba, .int .i64 x.len, .int .i64 x.phys] 55)) = .ok (.slice a' (m.length + 1) cap') w' ∧ Rr w0 w' a' cap' (m ++ [x]) ∧
      Keep (fun b => a = some ⟨b, 0, none⟩) w w' ∧ (a' = a ∨ ∃ g, a' = some ⟨g, 0, none⟩ ∧ w.heap.size ≤ g) := by
  have hA := (Keep.refl (fun _ => False) w).alloc (.cells #[.int .i64 x.lba, .int .i64 x.len, .int .i64 x.phys] 55)
  have h1 := h.more hA
  have hsz : w.heap.size ≤ (w.alloc (.cells #[.int .i64 x.lba, .int .i64 x.len, .int .i64 x.phys] 55)).heap.size := hA.size
  have hnews : ∀ j u, (rcells [x])[j]? = some u → (w.alloc (.cells #[.int .i64 x.lba, .int .i64 x.len, .int .i64 x.phys] 55)).cell? ((⟨w.heap.size, 0, none⟩ : Addr).add j) = some u := fun j u hu => cells_new w _ 55 j u (by simpa [rcells, rcs] using hu)
  have hone : ∀ u ∈ rcells [x], u.oneCell' = true := by intro u hu; simp [rcells, rcs] at hu; rcases hu with rfl | rfl | rfl <;> rfl
  obtain ⟨i, hi, hz0, hz1, hz2⟩ := info_parts info31
  generalize w.alloc (.cells #[.int .i64 x.lba, .int .i64 x.len, .int .i64 x.phys] 55) = w1 at *
  obtain ⟨v', w', hrun, hown, hgrow, hnil⟩ := run_append_own (P := Try.prog) w1 w0.heap.size 49 49 55 i _ 3 24 Try.underlying49 hi hz0 hz1 hz2 rfl (by decide) (.slice a m.length cap) m.length (rcells m) h1.own
    ⟨w.heap.size, 0, none⟩ 1 1 (rcells [x]) (rcells_len [x]) hnews hone (by unfold maxLen; omega) (by omega) h1.keep.size
  have hk : Keep (fun b => a = some ⟨b, 0, none⟩) w1 w' := (keep_grown hgrow).mono (fun b _ e => by
    rcases h1.own.2 with ⟨e', -⟩ | ⟨g, c, cur, e', -⟩
    · injection e' with e'; subst e'; cases e
    · injection e' with e'; subst e'; injection e with e; subst e; rfl)
  have hK : Keep (fun b => a = some ⟨b, 0, none⟩) w w' := (hA.mono (fun _ _ e => e.elim)).next hk (fun y hy e => e)
  have hK0 : Keep (fun _ => False) w0 w' := h1.keep.next hk (fun y hy e => by have := (h1.block e).1; omega)
  rw [← rcells_app] at hown
  have hshape : ∃ a' cap', v' = .slice a' (m.length + 1) cap' := by
    rcases hown.2 with ⟨e, hn⟩ | ⟨g, c', cur, e, -⟩
    · omega
    · exact ⟨_, _, e⟩
  obtain ⟨a', cap', rfl⟩ := hshape
  refine ⟨a', cap', w', hrun, ⟨by rw [List.length_append]; exact hown, hK0⟩, hK, ?_⟩
  rcases h1.own.2 with ⟨e', hn⟩ | ⟨g, c, cur, e', hb, hh, hnc, hm, hs, ht⟩
  · injection e' with e1 e2 e3
    subst e1 e3
    have hn' := run_append_nil (P := Try.prog) w1 49 49 55 i _ Try.underlying49 hi hz0 ⟨w.heap.size, 0, none⟩ 1 1 (rcells [x]) (by rw [hz1]; rfl) hnews (by omega) (by omega) (by rw [hz2]; omega)
    rw [hn] at hrun
    rw [hn'] at hrun
    injection hrun with hr1 hr2
    injection hr1 with hr1 hr3 hr4
    exact Or.inr ⟨_, hr1.symm, hsz⟩
  · injection e' with e1 e2 e3
    subst e1 e3
    by_cases hroom : m.length + 1 ≤ cap
    · obtain ⟨w'', hf, -, -⟩ := run_append_fits (P := Try.prog) w1 w0.heap.size 49 49 55 i 3 Try.underlying49 hi hz1 g m.length cap (rcells m) h1.own ⟨w.heap.size, 0, none⟩ 1 1 (rcells [x]) (rcells_len [x]) hnews hone hroom
      rw [hf] at hrun
      injection hrun with hr1 hr2
      injection hr1 with hr1 hr3 hr4
      exact Or.inl hr1.symm
    · have hg := run_append_grow (P := Try.prog) w1 49 49 55 i _ Try.underlying49 hi hz0 ⟨g, 0, none⟩ m.length cap (rcells m) (by rw [hz1]; exact rcells_len m) (h1.own.cells (g := g) rfl) ⟨w.heap.size, 0, none⟩ 1 1 (rcells [x]) (by rw [hz1]; rfl) hnews (by omega) (by omega) (growslice_fits (by omega) (by rw [hz2]; omega))
      rw [hg] at hrun
      injection hrun with hr1 hr2
      injection hr1 with hr1 hr3 hr4
      exact Or.inr ⟨_, hr1.symm, hsz⟩

theorem split_at (v : Int) : ∀ {m : List Rn}, Tr.Up m → ∃ P S, m = P ++ S ∧ (∀ x ∈ P, x.lba < v) ∧ ∀ x ∈ S, v ≤ x.lba
  | [], _ => ⟨[], [], rfl, by simp, by simp⟩
  | y :: m, h => by
    obtain ⟨h1, h2⟩ := List.pairwise_cons.1 h
    by_cases c : y.lba < v
    · obtain ⟨P, S, e, hP, hS⟩ := split_at v h2
      exact ⟨y :: P, S, by rw [e]; rfl, fun x hx => by rcases List.mem_cons.1 hx with rfl | hx; exact c; exact hP x hx, hS⟩
    · exact ⟨[], y :: m, rfl, by simp, fun x hx => by rcases List.mem_cons.1 hx with rfl | hx; omega; have := h1 x hx; omega⟩
theorem ceilL_split {v : Int} {P S : List Rn} (hP : ∀ x ∈ P, x.lba < v) (hS : ∀ x ∈ S, v ≤ x.lba) : Tr.ceilL v (P ++ S) none = S.head? := by
  rw [Tr.ceilL_low P S none hP]
  cases S with
  | nil => rfl
  | cons y S => rw [Tr.ceilL, if_pos (hS y (by simp))]; rfl
theorem floorL_split {v : Int} {P S : List Rn} (hP : ∀ x ∈ P, x.lba ≤ v) (hS : ∀ x ∈ S, v < x.lba) : Tr.floorL v (P ++ S) none = P.getLast? := by
  rw [Tr.floorL_app, Tr.floorL_high S _ hS]
  rcases snoc_cases P with rfl | ⟨A, x, rfl⟩
  · rfl
  · rw [Tr.floorL_app, Tr.floorL, if_pos (hP x (by simp))]
    simp [Tr.floorL]
theorem nearL_app (lo hi : Int) (a b : List Rn) : nearL lo hi (a ++ b) = nearL lo hi a ++ nearL lo hi b := by simp [nearL]
theorem nearL_pos {lo hi : Int} {y : Rn} (h1 : lo ≤ y.fin) (h2 : y.lba ≤ hi) : nearL lo hi [y] = [y] := by simp [nearL, h1, h2]
theorem nearL_none {lo hi : Int} {a : List Rn} (h : ∀ x ∈ a, x.fin < lo ∨ hi < x.lba) : nearL lo hi a = [] := by
  unfold nearL
  rw [List.filter_eq_nil_iff]
  intro x hx
  have := h x hx
  simp; omega
theorem near_below {lo hi : Int} (hl : lo ≤ hi) {P : List Rn} (hf : Form P) (hP : ∀ x ∈ P, x.lba < lo) : nearL lo hi P = match P.getLast? with
    | some x => if x.fin < lo then [] else [x]
    | none => [] := by
  rcases snoc_cases P with rfl | ⟨A, x, rfl⟩
  · rfl
  · simp only [List.getLast?_concat]
    obtain ⟨fa, fx, fax⟩ := Form.app.1 hf
    have hx := hP x (by simp)
    rw [nearL_app, nearL_none (a := A) (fun y hy => by have := (fax y hy x (by simp)).1; omega)]
    by_cases c : x.fin < lo
    · rw [if_pos c, nearL_none (fun y hy => by simp at hy; subst hy; exact Or.inl c)]; rfl
    · rw [if_neg c, nearL_pos (by omega) (by omega)]; rfl

set_option maxRecDepth 100000 in
theorem load_i64 {w : World} {g o : Nat} {n : Int} (h : w.cell? ⟨g, o, none⟩ = some (.int .i64 n)) : (Instr.loadAt 3 (.pointer (some ⟨g, o, none⟩))).run Try.prog w = .ok (.int .i64 n) w := by
  go_simp
theorem call53 (args : Array Value) (w : World) : (callFunc 53 args).run Try.prog w = .ok (.enter 53 args) w := enters Try.func53 (by kernel_rfl) (by kernel_rfl) args w
set_option maxRecDepth 100000 in
set_option maxHeartbeats 2000000 in
theorem near_any {w wa : World} {q b p k N cap : Nat} {m : List Rn} (h : Mp w wa q b p k N cap m) {lo hi : Int} (h0 : 0 ≤ lo) (h1 : lo < hi) (h2 : hi ≤ 512) :
    Calls Try.prog 48 #[.pointer (some ⟨q, 0, none⟩), .int .i64 lo, .int .i64 hi] wa fun e w' => ∃ a cap', e = .returned (.slice a (nearL lo hi m).length cap') ∧ Rr wa w' a cap' (nearL lo hi m) := by
  obtain ⟨P, S, hm, hP, hS⟩ := split_at lo h.form.up
  obtain ⟨fP, fS, fPS⟩ := Form.app.1 (show Form (P ++ S) by rw [← hm]; exact h.form)
  obtain ⟨-, -, t2⟩ := h.tops
  have hfl := h.floor (lo - 1)
  have hflE : Tr.floorL (lo - 1) m none = P.getLast? := by rw [hm]; exact floorL_split (fun x hx => by have := hP x hx; omega) (fun x hx => by have := hS x hx; omega)
  have hnP := near_below (hi := hi) (by omega) fP hP
  rw [hflE] at hfl
  have hlast : ∀ x, P.getLast? = some x → x ∈ m := fun x hx => by
    rcases snoc_cases P with rfl | ⟨A, y, rfl⟩
    · cases hx
    · simp only [List.getLast?_concat] at hx; injection hx with hx; subst hx; rw [hm]; simp
  have d0 := wrapI (x := lo - 1) (by omega) (by omega)
  have hlen := h.len
  have hN := h.N2
  generalize P.getLast? = o at hfl hlast hnP
  unfold ansV at hfl
  rw [rnA_lit] at hfl
  cases o with
  | none =>
    have hn : nearL lo hi P = [] := hnP
    rw [show (none : Option Rn).isSome = false from rfl] at hfl
    rw [show (none : Option Rn).getD rn0 = rn0 from rfl, show rn0.lba = 0 from rfl, show rn0.len = 0 from rfl, show rn0.phys = 0 from rfl] at hfl
    clear hnP hlast hflE
    go_enter Try.func48, Try.ntmps48
    go_upto_region 5 with (go_at_call 55; refine hfl.mono ?_; rintro e w2 ⟨rfl, k2⟩)
    have R5 : Rr wa (w2.alloc (.cells (rnA rn0) 55)) none 0 (nearL lo hi P) := by rw [hn]; exact ⟨World.ownsRow_nil _ _ _ _, k2.alloc _⟩
    rw [rn0_lit] at R5
    generalize w2.alloc (.cells #[.int .i64 0, .int .i64 0, .int .i64 0] 55) = w5 at R5 ⊢
    clear hfl k2 t2
    have M5 := h.more R5.keep
    obtain ⟨-, -, t5⟩ := M5.tops
    have hce := M5.ceil lo
    rw [hm, ceilL_split hP hS] at hce
    unfold ansV at hce
    rw [rnA_lit] at hce
    have hap : ∀ g', (none : Option Addr) = some ⟨g', 0, none⟩ → g' < w5.heap.size := fun g' e => (R5.block e).2
    go_wp2_with (go_at_call 53; refine hce.mono ?_; rintro e w6 ⟨rfl, k6⟩)
    have K7 : Keep (fun _ => False) w5 (w6.alloc (.cells (rnA (S.head?.getD rn0)) 55)) := k6.alloc _
    have L7 := Lrn.new w6 (S.head?.getD rn0)
    have hg7 : wa.heap.size ≤ w6.heap.size := by have := R5.keep.size; have := k6.size; omega
    have R7 := R5.more K7
    have hap7 : ∀ g', (none : Option Addr) = some ⟨g', 0, none⟩ → ¬ g' = w6.heap.size := fun g' e => by have := hap g' e; have := k6.size; omega
    rw [rnA_lit] at K7 L7 R7
    generalize w6.alloc (.cells #[.int .i64 (S.head?.getD rn0).lba, .int .i64 (S.head?.getD rn0).len, .int .i64 (S.head?.getD rn0).phys] 55) = w7 at K7 L7 R7 ⊢
    generalize w6.heap.size = g at L7 hg7 hap7 ⊢
    clear hce k6 t5 K7 M5 R5 hap
    have hm' : Hid (m = P ++ S) := hm
    have hlen' : Hid (m.length ≤ N ∧ m.length ≤ cap) := hlen
    clear hm hlen
    go_loopw [7, 11] (fun lv ov wx => ∃ (P S : List Rn) (a : Option Addr) (c : Nat), lv = .slice a (nearL lo hi P).length c ∧ ov = .bool S.head?.isSome ∧ Hid (m = P ++ S ∧ (∀ x ∈ S, lo ≤ x.lba) ∧ (∀ g', a = some ⟨g', 0, none⟩ → ¬ g' = g)) ∧ Rr wa wx a c (nearL lo hi P) ∧ Lrn wx g (S.head?.getD rn0)) (fun lv _ _ => 1000 - slen lv)
    case atStart => exact ⟨P, S, (none : Option Addr), 0, by rw [hn]; rfl, rfl, ⟨hm', hS, hap7⟩, R7, L7⟩
    case round =>
      clear R7 L7 hap7 fP fS fPS hP hS hm' hn
      obtain ⟨P, S, a, c, rfl, rfl, hI, R8, L8⟩ := hrel
      have hrl : (nearL lo hi P).length ≤ 512 := by
        obtain ⟨e, -⟩ := hI
        have : m.length ≤ N ∧ m.length ≤ cap := hlen'
        have h3 : (nearL lo hi P).length ≤ P.length := List.length_filter_le _ _
        rw [e, List.length_append] at this
        omega
      cases S with
      | nil =>
        rw [show ([] : List Rn).head?.isSome = false from rfl]
        have hend : Hid (nearL lo hi m = nearL lo hi P) := by show nearL lo hi m = nearL lo hi P; rw [hI.1, List.append_nil]
        clear h L8
        go_wp2_with fail
        go_ret
        exact ⟨a, c, by rw [show nearL lo hi m = nearL lo hi P from hend]; rfl, by rw [show nearL lo hi m = nearL lo hi P from hend]; exact R8⟩
      | cons y S =>
        rw [show (y :: S).head?.isSome = true from rfl]
        rw [show (y :: S).head?.getD rn0 = y from rfl] at L8
        obtain ⟨p0, p1, p2⟩ := L8.c
        have hy : y ∈ m := by rw [hI.1]; simp
        have hyr := h.run hy
        have hup := h.form.up
        rw [hI.1] at hup
        by_cases c1 : y.lba ≤ hi
        · obtain ⟨a', c', w', happ, R9, k9, hor⟩ := R8.appS (by omega) y
          have hg9 : ∀ x, a = some ⟨x, 0, none⟩ → ¬ g = x := fun x e1 e2 => hI.2.2 x e1 e2.symm
          have L9 : Lrn w' g y := Blk.keep L8 k9 (fun e => hg9 g e rfl)
          have hlt8 : g < wr.heap.size := Blk.lt L8 (by omega)
          have hap9 : ∀ g', a' = some ⟨g', 0, none⟩ → ¬ g' = g := fun g' e => by
            rcases hor with rfl | ⟨g2, rfl, h2⟩
            · exact hI.2.2 g' e
            · injection e with e; injection e with e; omega
          have hnext : nearL lo hi (P ++ [y]) = nearL lo hi P ++ [y] := by
            rw [nearL_app, nearL_pos (by have := hI.2.1 y (by simp); unfold Rn.fin; omega) c1]
          rw [← hnext] at R9
          have M9 := h.more R9.keep
          obtain ⟨-, -, t9⟩ := M9.tops
          have hup' : Tr.Up (P ++ [y] ++ S) := by simpa using hup
          have hsp := List.pairwise_append.1 hup'
          have hceE : Tr.ceilL (y.lba + 1) m none = S.head? := by
            rw [hI.1, show P ++ y :: S = (P ++ [y]) ++ S by simp]
            refine ceilL_split (fun x hx => ?_) (fun x hx => by have := hsp.2.2 y (by simp) x hx; omega)
            rcases List.mem_append.1 hx with hx | hx
            · have := (List.pairwise_append.1 hsp.1).2.2 x hx y (by simp); omega
            · simp at hx; subst hx; omega
          have hce := (M9.more ((Keep.refl (fun _ => False) w').drew)).ceil (y.lba + 1)
          rw [hceE] at hce
          unfold ansV at hce
          rw [rnA_lit] at hce
          have d1 := wrapI (x := y.lba + 1) (by omega) (by omega)
          obtain ⟨v0, v1, v2⟩ := L9.c
          clear hup hup' hsp hceE
          have hI' : Hid (m = P ++ y :: S ∧ (∀ x ∈ y :: S, lo ≤ x.lba)) := ⟨hI.1, hI.2.1⟩
          have hnl : (nearL lo hi (P ++ [y])).length = (nearL lo hi P).length + 1 := by rw [hnext]; simp
          clear hI hor
          go_upto_region 8 with (at_builtin; refine wpList_append_run rfl (.tmp 52) (.tmp 54) 49 rfl (by rfl) (by rfl) happ ?_)
          have L9' : Lrn w'.drew g y := L9
          have t9' : w'.drew.cell? ⟨q, 2, none⟩ = some (.pointer (some ⟨b, 0, none⟩)) := t9
          have v0' : w'.drew.cell? ⟨g, 0, none⟩ = some (.int .i64 y.lba) := v0
          refine wp_region_noPanic ?_
          refine wp_region_held_drew (S := fun wz => wz.cell? ⟨q, 2, none⟩ = some (.pointer (some ⟨b, 0, none⟩))) (by kernel_rfl) (t9') (fun hH0 => ?_)
          refine' wpAnyH_take (i := 0) (oi := { dst := some 57, op := Op.move (Operand.tmp 0), type := 39, pos := "runs.go:149", after := #[], guard := none }) (v := _) rfl (by kernel_rfl) (by kernel_rfl) (by kernel_rfl) (fun _ _ _ h => h) (Or.inl ⟨by rfl, ?hya0⟩) hH0 ?ra0
          case hya0 => (intro w' hSw; clear hSw; go_simp; try with_reducible rfl)
          simp only [Act.put, List.setIfInBounds_toArray, List.set_cons_zero, List.set_cons_succ]
          refine' wpAnyH_take (i := 1) (oi := { dst := some 58, op := Op.nilCheck (Operand.tmp 57), type := 0, pos := "runs.go:149", after := #[{ on := 0, ground := Ground.data }], guard := none }) (v := _) rfl (by kernel_rfl) (by kernel_rfl) (by kernel_rfl) (fun _ _ _ h => h) (Or.inl ⟨by rfl, ?hya1⟩) hH0 ?ra1
          case hya1 => (intro w' hSw; clear hSw; go_simp; try with_reducible rfl)
          simp only [Act.put, List.setIfInBounds_toArray, List.set_cons_zero, List.set_cons_succ]
          refine' wpAnyH_take (i := 2) (oi := { dst := some 59, op := Op.fieldAddr 71 (Operand.tmp 58) 2, type := 0, pos := "runs.go:149", after := #[{ on := 1, ground := Ground.data }], guard := none }) (v := _) rfl (by kernel_rfl) (by kernel_rfl) (by kernel_rfl) (fun _ _ _ h => h) (Or.inl ⟨by rfl, ?hya2⟩) hH0 ?ra2
          case hya2 => (intro w' hSw; clear hSw; go_simp; try with_reducible rfl)
          simp only [Act.put, List.setIfInBounds_toArray, List.set_cons_zero, List.set_cons_succ]
          refine' wpAnyH_take (i := 3) (oi := { dst := some 60, op := Op.load 68 (Operand.tmp 59), type := 68, pos := "runs.go:149", after := #[{ on := 2, ground := Ground.data }], guard := none }) (v := _) rfl (by kernel_rfl) (by kernel_rfl) (by kernel_rfl) (fun _ _ _ h => h) (Or.inl ⟨by rfl, ?hya3⟩) hH0 ?ra3
          case hya3 => (intro w' hSw; go_simp; try with_reducible rfl)
          simp only [Act.put, List.setIfInBounds_toArray, List.set_cons_zero, List.set_cons_succ]
          refine' wpAnyH_take (i := 4) (oi := { dst := some 61, op := Op.fieldAddr 55 (Operand.tmp 10) 0, type := 0, pos := "runs.go:149", after := #[], guard := none }) (v := _) rfl (by kernel_rfl) (by kernel_rfl) (by kernel_rfl) (fun _ _ _ h => h) (Or.inl ⟨by rfl, ?hya4⟩) hH0 ?ra4
          case hya4 => (intro w' hSw; clear hSw; go_simp; try with_reducible rfl)
          simp only [Act.put, List.setIfInBounds_toArray, List.set_cons_zero, List.set_cons_succ]
          refine wpAnyH_ready (rs := [5]) (by kernel_rfl) (by simp) ?_
          refine AllReadyH.cons (o := { dst := some 62, op := Op.load 3 (Operand.tmp 61), type := 3, pos := "runs.go:149", after := #[{ on := 4, ground := Ground.data }], guard := none }) rfl (fun K hK => ?_) AllReadyH.nil
          refine step_load_run (by rfl) 3 (.tmp 61) rfl (by rfl) (load_i64 v0') ?_
          refine hK.out _ _ (t9') (fun hH1 => ?_)
          clear hK K hH0
          simp only [Act.put, List.setIfInBounds_toArray, List.set_cons_zero, List.set_cons_succ]
          refine' wpAnyH_take (i := 6) (oi := { dst := some 63, op := Op.binOp BinOp.add 3 (Operand.tmp 62) (Operand.const (Value.int IntKind.i64 1)) 3, type := 3, pos := "runs.go:149", after := #[{ on := 5, ground := Ground.data }], guard := none }) (v := _) rfl (by kernel_rfl) (by kernel_rfl) (by kernel_rfl) (fun _ _ _ h => h) (Or.inl ⟨by rfl, ?hya6⟩) hH1 ?ra6
          case hya6 => (intro w' hSw; clear hSw; go_simp; try with_reducible rfl)
          simp only [Act.put, List.setIfInBounds_toArray, List.set_cons_zero, List.set_cons_succ]
          refine wpAnyH_ready (rs := [7]) (by kernel_rfl) (by simp) ?_
          refine AllReadyH.cons (o := { dst := some 64, op := Op.call { callee := Callee.value (Operand.func 53), args := #[Operand.tmp 60, Operand.tmp 63], argTypes := #[68, 3] }, type := 74, pos := "runs.go:149", after := #[{ on := 3, ground := Ground.data }, { on := 6, ground := Ground.data }], guard := none }) rfl (fun K hK => ?_) AllReadyH.nil
          refine step_call_want (vs := #[.pointer (some ⟨b, 0, none⟩), .int .i64 (y.lba + 1)]) (R := fun u wz => u = .tuple #[.agg #[.int .i64 (S.head?.getD rn0).lba, .int .i64 (S.head?.getD rn0).len, .int .i64 (S.head?.getD rn0).phys], .bool S.head?.isSome] ∧ Keep (fun _ => False) w'.drew wz) (by rfl) 53 #[Operand.tmp 60, Operand.tmp 63] #[68, 3] rfl (by simp [Act.eval]) call53 (post_of hce) ?_
          rintro _ w10 ⟨rfl, k10⟩
          refine hK.out _ _ ((M9.more (((Keep.refl (fun _ => False) w').drew).trans k10)).tops.2.2) (fun hH2 => ?_)
          clear hK K hH1
          simp only [Act.put, List.setIfInBounds_toArray, List.set_cons_zero, List.set_cons_succ]
          refine' wpAnyH_take (i := 8) (oi := { dst := some 56, op := Op.move (Operand.tmp 64), type := 74, pos := "runs.go:149", after := #[{ on := 7, ground := Ground.data }], guard := none }) (v := _) rfl (by kernel_rfl) (by kernel_rfl) (by kernel_rfl) (fun _ _ _ h => h) (Or.inl ⟨by rfl, ?hya8⟩) hH2 ?ra8
          case hya8 => (intro w' hSw; clear hSw; go_simp; try with_reducible rfl)
          simp only [Act.put, List.setIfInBounds_toArray, List.set_cons_zero, List.set_cons_succ]
          refine' wpAnyH_take (i := 9) (oi := { dst := some 65, op := Op.extract (Operand.tmp 56) 0, type := 55, pos := "runs.go:149", after := #[{ on := 8, ground := Ground.data }], guard := none }) (v := _) rfl (by kernel_rfl) (by kernel_rfl) (by kernel_rfl) (fun _ _ _ h => h) (Or.inl ⟨by rfl, ?hya9⟩) hH2 ?ra9
          case hya9 => (intro w' hSw; clear hSw; go_simp; try with_reducible rfl)
          simp only [Act.put, List.setIfInBounds_toArray, List.set_cons_zero, List.set_cons_succ]
          refine' wpAnyH_take (i := 10) (oi := { dst := some 66, op := Op.extract (Operand.tmp 56) 1, type := 4, pos := "runs.go:149", after := #[{ on := 8, ground := Ground.data }, { on := 11, ground := Ground.gcOnly Departure.lateStores }], guard := none }) (v := _) rfl (by kernel_rfl) (by kernel_rfl) (by kernel_rfl) (fun _ _ _ h => h) (Or.inl ⟨by rfl, ?hya10⟩) hH2 ?ra10
          case hya10 => (intro w' hSw; clear hSw; go_simp; try with_reducible rfl)
          simp only [Act.put, List.setIfInBounds_toArray, List.set_cons_zero, List.set_cons_succ]
          obtain ⟨w11, hst, L10, k11⟩ := (L9'.more k10).over (S.head?.getD rn0)
          have M11 := (M9.more (((Keep.refl (fun _ => False) w').drew).trans k10)).other k11 (fun x e => by have := h.keep.size; omega) (fun e => by have := h.lt; omega) (fun e => by have := h.lt; omega) (fun e => by have := h.lt; omega) (fun e => by have := h.lt; omega)
          refine wpAnyH_ready (rs := [11]) (by kernel_rfl) (by simp) ?_
          refine AllReadyH.cons (o := { dst := none, op := Op.store 55 (Operand.tmp 10) (Operand.tmp 65), type := 0, pos := "runs.go:149", after := #[{ on := 9, ground := Ground.data }, { on := 7, ground := Ground.chain }, { on := 0, ground := Ground.phase }, { on := 1, ground := Ground.phase }, { on := 2, ground := Ground.phase }, { on := 3, ground := Ground.phase }, { on := 4, ground := Ground.phase }, { on := 5, ground := Ground.phase }, { on := 6, ground := Ground.phase }, { on := 7, ground := Ground.phase }, { on := 8, ground := Ground.phase }, { on := 9, ground := Ground.phase }, { on := 10, ground := Ground.textOnly Departure.lateStores }], guard := none }) rfl (fun K hK => ?_) AllReadyH.nil
          refine step_store_run (by rfl) 55 (.tmp 10) (.tmp 65) rfl (by rfl) (by rfl) hst ?_
          refine hK.out _ _ (M11.tops.2.2) (fun hH3 => ?_)
          clear hK K hH2
          refine' wpAnyH_take (i := 12) (oi := { dst := some 11, op := Op.assign (Operand.tmp 66), type := 4, pos := "runs.go:149", after := #[{ on := 10, ground := Ground.data }, { on := 11, ground := Ground.chain }, { on := 0, ground := Ground.phase }, { on := 1, ground := Ground.phase }, { on := 2, ground := Ground.phase }, { on := 3, ground := Ground.phase }, { on := 4, ground := Ground.phase }, { on := 5, ground := Ground.phase }, { on := 6, ground := Ground.phase }, { on := 7, ground := Ground.phase }, { on := 8, ground := Ground.phase }, { on := 9, ground := Ground.phase }, { on := 10, ground := Ground.phase }, { on := 11, ground := Ground.phase }], guard := none }) (v := _) rfl (by kernel_rfl) (by kernel_rfl) (by kernel_rfl) (fun _ _ _ h => h) (Or.inl ⟨by rfl, ?hya12⟩) hH3 ?ra12
          case hya12 => (intro w' hSw; clear hSw; go_simp; try with_reducible rfl)
          simp only [Act.put, List.setIfInBounds_toArray, List.set_cons_zero, List.set_cons_succ]
          refine wpAnyH_done (by kernel_rfl) ?_ _
          refine NoPanic.normal ?_
          have L11 := L10
          have R11 := ((R9.more ((Keep.refl _ _).drew)).more k10).other k11 (fun g' e => hap9 g' e) (fun x hx => by omega)
          clear L10 hce L9 L9' M9 t9 v0 v1 v2 p0 p1 p2 hst v0' t9'
          go_wp2_with fail
          go_roundw
          case rel =>
            refine ⟨P ++ [y], S, a', c', by rw [show (nearL lo hi (P ++ [y])).length = (nearL lo hi P).length + 1 from hnl], rfl, ⟨?_, ?_, hap9⟩, R11, L11⟩
            · rw [hI'.1]; simp
            · intro x hx; exact hI'.2 x (by simp [hx])
          case measure => simp [slen]; omega
        · have hend : Hid (nearL lo hi m = nearL lo hi P) := by
            show nearL lo hi m = nearL lo hi P
            rw [hI.1, nearL_app, nearL_none (a := y :: S) (fun x hx => ?_), List.append_nil]
            right
            rcases List.mem_cons.1 hx with rfl | hx
            · omega
            · have := (List.pairwise_append.1 hup).2.1
              have := (List.pairwise_cons.1 this).1 x hx
              omega
          clear h L8 hup
          go_wp2_with fail
          go_ret
          exact ⟨a, c, by rw [show nearL lo hi m = nearL lo hi P from hend]; rfl, by rw [show nearL lo hi m = nearL lo hi P from hend]; exact R8⟩
  | some x =>
    have hx := h.run (hlast x rfl)
    have d1 := wrapI (x := x.lba + x.len) (by omega) (by omega)
    rw [show (some x).isSome = true from rfl, show (some x).getD rn0 = x from rfl] at hfl
    clear hlast hflE
    by_cases cx : x.lba + x.len < lo
    · have hn : nearL lo hi P = [] := by rw [hnP]; exact if_pos cx
      clear hnP
      go_enter Try.func48, Try.ntmps48
      go_upto_region 5 with (go_at_call 55; refine hfl.mono ?_; rintro e w2 ⟨rfl, k2⟩)
      have R5 : Rr wa (w2.alloc (.cells (rnA x) 55)) none 0 (nearL lo hi P) := by rw [hn]; exact ⟨World.ownsRow_nil _ _ _ _, k2.alloc _⟩
      rw [rnA_lit] at R5
      generalize w2.alloc (.cells #[.int .i64 x.lba, .int .i64 x.len, .int .i64 x.phys] 55) = w5 at R5 ⊢
      clear hfl k2 t2 cx
      have M5 := h.more R5.keep
      obtain ⟨-, -, t5⟩ := M5.tops
      have hce := M5.ceil lo
      rw [hm, ceilL_split hP hS] at hce
      unfold ansV at hce
      rw [rnA_lit] at hce
      have hap : ∀ g', (none : Option Addr) = some ⟨g', 0, none⟩ → g' < w5.heap.size := fun g' e => (R5.block e).2
      go_wp2_with (go_at_call 53; refine hce.mono ?_; rintro e w6 ⟨rfl, k6⟩)
      have K7 : Keep (fun _ => False) w5 (w6.alloc (.cells (rnA (S.head?.getD rn0)) 55)) := k6.alloc _
      have L7 := Lrn.new w6 (S.head?.getD rn0)
      have hg7 : wa.heap.size ≤ w6.heap.size := by have := R5.keep.size; have := k6.size; omega
      have R7 := R5.more K7
      have hap7 : ∀ g', (none : Option Addr) = some ⟨g', 0, none⟩ → ¬ g' = w6.heap.size := fun g' e => by have := hap g' e; have := k6.size; omega
      rw [rnA_lit] at K7 L7 R7
      generalize w6.alloc (.cells #[.int .i64 (S.head?.getD rn0).lba, .int .i64 (S.head?.getD rn0).len, .int .i64 (S.head?.getD rn0).phys] 55) = w7 at K7 L7 R7 ⊢
      generalize w6.heap.size = g at L7 hg7 hap7 ⊢
      clear hce k6 t5 K7 M5 R5 hap
      have hm' : Hid (m = P ++ S) := hm
      have hlen' : Hid (m.length ≤ N ∧ m.length ≤ cap) := hlen
      clear hm hlen
      go_loopw [7, 11] (fun lv ov wx => ∃ (P S : List Rn) (a : Option Addr) (c : Nat), lv = .slice a (nearL lo hi P).length c ∧ ov = .bool S.head?.isSome ∧ Hid (m = P ++ S ∧ (∀ x ∈ S, lo ≤ x.lba) ∧ (∀ g', a = some ⟨g', 0, none⟩ → ¬ g' = g)) ∧ Rr wa wx a c (nearL lo hi P) ∧ Lrn wx g (S.head?.getD rn0)) (fun lv _ _ => 1000 - slen lv)
      case atStart => exact ⟨P, S, (none : Option Addr), 0, by rw [hn]; rfl, rfl, ⟨hm', hS, hap7⟩, R7, L7⟩
      case round =>
        clear R7 L7 hap7 fP fS fPS hP hS hm' hn
        obtain ⟨P, S, a, c, rfl, rfl, hI, R8, L8⟩ := hrel
        have hrl : (nearL lo hi P).length ≤ 512 := by
          obtain ⟨e, -⟩ := hI
          have : m.length ≤ N ∧ m.length ≤ cap := hlen'
          have h3 : (nearL lo hi P).length ≤ P.length := List.length_filter_le _ _
          rw [e, List.length_append] at this
          omega
        cases S with
        | nil =>
          rw [show ([] : List Rn).head?.isSome = false from rfl]
          have hend : Hid (nearL lo hi m = nearL lo hi P) := by show nearL lo hi m = nearL lo hi P; rw [hI.1, List.append_nil]
          clear h L8
          go_wp2_with fail
          go_ret
          exact ⟨a, c, by rw [show nearL lo hi m = nearL lo hi P from hend]; rfl, by rw [show nearL lo hi m = nearL lo hi P from hend]; exact R8⟩
        | cons y S =>
          rw [show (y :: S).head?.isSome = true from rfl]
          rw [show (y :: S).head?.getD rn0 = y from rfl] at L8
          obtain ⟨p0, p1, p2⟩ := L8.c
          have hy : y ∈ m := by rw [hI.1]; simp
          have hyr := h.run hy
          have hup := h.form.up
          rw [hI.1] at hup
          by_cases c1 : y.lba ≤ hi
          · obtain ⟨a', c', w', happ, R9, k9, hor⟩ := R8.appS (by omega) y
            have hg9 : ∀ x, a = some ⟨x, 0, none⟩ → ¬ g = x := fun x e1 e2 => hI.2.2 x e1 e2.symm
            have L9 : Lrn w' g y := Blk.keep L8 k9 (fun e => hg9 g e rfl)
            have hlt8 : g < wr.heap.size := Blk.lt L8 (by omega)
            have hap9 : ∀ g', a' = some ⟨g', 0, none⟩ → ¬ g' = g := fun g' e => by
              rcases hor with rfl | ⟨g2, rfl, h2⟩
              · exact hI.2.2 g' e
              · injection e with e; injection e with e; omega
            have hnext : nearL lo hi (P ++ [y]) = nearL lo hi P ++ [y] := by
              rw [nearL_app, nearL_pos (by have := hI.2.1 y (by simp); unfold Rn.fin; omega) c1]
            rw [← hnext] at R9
            have M9 := h.more R9.keep
            obtain ⟨-, -, t9⟩ := M9.tops
            have hup' : Tr.Up (P ++ [y] ++ S) := by simpa using hup
            have hsp := List.pairwise_append.1 hup'
            have hceE : Tr.ceilL (y.lba + 1) m none = S.head? := by
              rw [hI.1, show P ++ y :: S = (P ++ [y]) ++ S by simp]
              refine ceilL_split (fun x hx => ?_) (fun x hx => by have := hsp.2.2 y (by simp) x hx; omega)
              rcases List.mem_append.1 hx with hx | hx
              · have := (List.pairwise_append.1 hsp.1).2.2 x hx y (by simp); omega
              · simp at hx; subst hx; omega
            have hce := (M9.more ((Keep.refl (fun _ => False) w').drew)).ceil (y.lba + 1)
            rw [hceE] at hce
            unfold ansV at hce
            rw [rnA_lit] at hce
            have d1 := wrapI (x := y.lba + 1) (by omega) (by omega)
            obtain ⟨v0, v1, v2⟩ := L9.c
            clear hup hup' hsp hceE
            have hI' : Hid (m = P ++ y :: S ∧ (∀ x ∈ y :: S, lo ≤ x.lba)) := ⟨hI.1, hI.2.1⟩
            have hnl : (nearL lo hi (P ++ [y])).length = (nearL lo hi P).length + 1 := by rw [hnext]; simp
            clear hI hor
            go_upto_region 8 with (at_builtin; refine wpList_append_run rfl (.tmp 52) (.tmp 54) 49 rfl (by rfl) (by rfl) happ ?_)
            have L9' : Lrn w'.drew g y := L9
            have t9' : w'.drew.cell? ⟨q, 2, none⟩ = some (.pointer (some ⟨b, 0, none⟩)) := t9
            have v0' : w'.drew.cell? ⟨g, 0, none⟩ = some (.int .i64 y.lba) := v0
            refine wp_region_noPanic ?_
            refine wp_region_held_drew (S := fun wz => wz.cell? ⟨q, 2, none⟩ = some (.pointer (some ⟨b, 0, none⟩))) (by kernel_rfl) (t9') (fun hH0 => ?_)
            refine' wpAnyH_take (i := 0) (oi := { dst := some 57, op := Op.move (Operand.tmp 0), type := 39, pos := "runs.go:149", after := #[], guard := none }) (v := _) rfl (by kernel_rfl) (by kernel_rfl) (by kernel_rfl) (fun _ _ _ h => h) (Or.inl ⟨by rfl, ?hyb0⟩) hH0 ?rb0
            case hyb0 => (intro w' hSw; clear hSw; go_simp; try with_reducible rfl)
            simp only [Act.put, List.setIfInBounds_toArray, List.set_cons_zero, List.set_cons_succ]
            refine' wpAnyH_take (i := 1) (oi := { dst := some 58, op := Op.nilCheck (Operand.tmp 57), type := 0, pos := "runs.go:149", after := #[{ on := 0, ground := Ground.data }], guard := none }) (v := _) rfl (by kernel_rfl) (by kernel_rfl) (by kernel_rfl) (fun _ _ _ h => h) (Or.inl ⟨by rfl, ?hyb1⟩) hH0 ?rb1
            case hyb1 => (intro w' hSw; clear hSw; go_simp; try with_reducible rfl)
            simp only [Act.put, List.setIfInBounds_toArray, List.set_cons_zero, List.set_cons_succ]
            refine' wpAnyH_take (i := 2) (oi := { dst := some 59, op := Op.fieldAddr 71 (Operand.tmp 58) 2, type := 0, pos := "runs.go:149", after := #[{ on := 1, ground := Ground.data }], guard := none }) (v := _) rfl (by kernel_rfl) (by kernel_rfl) (by kernel_rfl) (fun _ _ _ h => h) (Or.inl ⟨by rfl, ?hyb2⟩) hH0 ?rb2
            case hyb2 => (intro w' hSw; clear hSw; go_simp; try with_reducible rfl)
            simp only [Act.put, List.setIfInBounds_toArray, List.set_cons_zero, List.set_cons_succ]
            refine' wpAnyH_take (i := 3) (oi := { dst := some 60, op := Op.load 68 (Operand.tmp 59), type := 68, pos := "runs.go:149", after := #[{ on := 2, ground := Ground.data }], guard := none }) (v := _) rfl (by kernel_rfl) (by kernel_rfl) (by kernel_rfl) (fun _ _ _ h => h) (Or.inl ⟨by rfl, ?hyb3⟩) hH0 ?rb3
            case hyb3 => (intro w' hSw; go_simp; try with_reducible rfl)
            simp only [Act.put, List.setIfInBounds_toArray, List.set_cons_zero, List.set_cons_succ]
            refine' wpAnyH_take (i := 4) (oi := { dst := some 61, op := Op.fieldAddr 55 (Operand.tmp 10) 0, type := 0, pos := "runs.go:149", after := #[], guard := none }) (v := _) rfl (by kernel_rfl) (by kernel_rfl) (by kernel_rfl) (fun _ _ _ h => h) (Or.inl ⟨by rfl, ?hyb4⟩) hH0 ?rb4
            case hyb4 => (intro w' hSw; clear hSw; go_simp; try with_reducible rfl)
            simp only [Act.put, List.setIfInBounds_toArray, List.set_cons_zero, List.set_cons_succ]
            refine wpAnyH_ready (rs := [5]) (by kernel_rfl) (by simp) ?_
            refine AllReadyH.cons (o := { dst := some 62, op := Op.load 3 (Operand.tmp 61), type := 3, pos := "runs.go:149", after := #[{ on := 4, ground := Ground.data }], guard := none }) rfl (fun K hK => ?_) AllReadyH.nil
            refine step_load_run (by rfl) 3 (.tmp 61) rfl (by rfl) (load_i64 v0') ?_
            refine hK.out _ _ (t9') (fun hH1 => ?_)
            clear hK K hH0
            simp only [Act.put, List.setIfInBounds_toArray, List.set_cons_zero, List.set_cons_succ]
            refine' wpAnyH_take (i := 6) (oi := { dst := some 63, op := Op.binOp BinOp.add 3 (Operand.tmp 62) (Operand.const (Value.int IntKind.i64 1)) 3, type := 3, pos := "runs.go:149", after := #[{ on := 5, ground := Ground.data }], guard := none }) (v := _) rfl (by kernel_rfl) (by kernel_rfl) (by kernel_rfl) (fun _ _ _ h => h) (Or.inl ⟨by rfl, ?hyb6⟩) hH1 ?rb6
            case hyb6 => (intro w' hSw; clear hSw; go_simp; try with_reducible rfl)
            simp only [Act.put, List.setIfInBounds_toArray, List.set_cons_zero, List.set_cons_succ]
            refine wpAnyH_ready (rs := [7]) (by kernel_rfl) (by simp) ?_
            refine AllReadyH.cons (o := { dst := some 64, op := Op.call { callee := Callee.value (Operand.func 53), args := #[Operand.tmp 60, Operand.tmp 63], argTypes := #[68, 3] }, type := 74, pos := "runs.go:149", after := #[{ on := 3, ground := Ground.data }, { on := 6, ground := Ground.data }], guard := none }) rfl (fun K hK => ?_) AllReadyH.nil
            refine step_call_want (vs := #[.pointer (some ⟨b, 0, none⟩), .int .i64 (y.lba + 1)]) (R := fun u wz => u = .tuple #[.agg #[.int .i64 (S.head?.getD rn0).lba, .int .i64 (S.head?.getD rn0).len, .int .i64 (S.head?.getD rn0).phys], .bool S.head?.isSome] ∧ Keep (fun _ => False) w'.drew wz) (by rfl) 53 #[Operand.tmp 60, Operand.tmp 63] #[68, 3] rfl (by simp [Act.eval]) call53 (post_of hce) ?_
            rintro _ w10 ⟨rfl, k10⟩
            refine hK.out _ _ ((M9.more (((Keep.refl (fun _ => False) w').drew).trans k10)).tops.2.2) (fun hH2 => ?_)
            clear hK K hH1
            simp only [Act.put, List.setIfInBounds_toArray, List.set_cons_zero, List.set_cons_succ]
            refine' wpAnyH_take (i := 8) (oi := { dst := some 56, op := Op.move (Operand.tmp 64), type := 74, pos := "runs.go:149", after := #[{ on := 7, ground := Ground.data }], guard := none }) (v := _) rfl (by kernel_rfl) (by kernel_rfl) (by kernel_rfl) (fun _ _ _ h => h) (Or.inl ⟨by rfl, ?hyb8⟩) hH2 ?rb8
            case hyb8 => (intro w' hSw; clear hSw; go_simp; try with_reducible rfl)
            simp only [Act.put, List.setIfInBounds_toArray, List.set_cons_zero, List.set_cons_succ]
            refine' wpAnyH_take (i := 9) (oi := { dst := some 65, op := Op.extract (Operand.tmp 56) 0, type := 55, pos := "runs.go:149", after := #[{ on := 8, ground := Ground.data }], guard := none }) (v := _) rfl (by kernel_rfl) (by kernel_rfl) (by kernel_rfl) (fun _ _ _ h => h) (Or.inl ⟨by rfl, ?hyb9⟩) hH2 ?rb9
            case hyb9 => (intro w' hSw; clear hSw; go_simp; try with_reducible rfl)
            simp only [Act.put, List.setIfInBounds_toArray, List.set_cons_zero, List.set_cons_succ]
            refine' wpAnyH_take (i := 10) (oi := { dst := some 66, op := Op.extract (Operand.tmp 56) 1, type := 4, pos := "runs.go:149", after := #[{ on := 8, ground := Ground.data }, { on := 11, ground := Ground.gcOnly Departure.lateStores }], guard := none }) (v := _) rfl (by kernel_rfl) (by kernel_rfl) (by kernel_rfl) (fun _ _ _ h => h) (Or.inl ⟨by rfl, ?hyb10⟩) hH2 ?rb10
            case hyb10 => (intro w' hSw; clear hSw; go_simp; try with_reducible rfl)
            simp only [Act.put, List.setIfInBounds_toArray, List.set_cons_zero, List.set_cons_succ]
            obtain ⟨w11, hst, L10, k11⟩ := (L9'.more k10).over (S.head?.getD rn0)
            have M11 := (M9.more (((Keep.refl (fun _ => False) w').drew).trans k10)).other k11 (fun x e => by have := h.keep.size; omega) (fun e => by have := h.lt; omega) (fun e => by have := h.lt; omega) (fun e => by have := h.lt; omega) (fun e => by have := h.lt; omega)
            refine wpAnyH_ready (rs := [11]) (by kernel_rfl) (by simp) ?_
            refine AllReadyH.cons (o := { dst := none, op := Op.store 55 (Operand.tmp 10) (Operand.tmp 65), type := 0, pos := "runs.go:149", after := #[{ on := 9, ground := Ground.data }, { on := 7, ground := Ground.chain }, { on := 0, ground := Ground.phase }, { on := 1, ground := Ground.phase }, { on := 2, ground := Ground.phase }, { on := 3, ground := Ground.phase }, { on := 4, ground := Ground.phase }, { on := 5, ground := Ground.phase }, { on := 6, ground := Ground.phase }, { on := 7, ground := Ground.phase }, { on := 8, ground := Ground.phase }, { on := 9, ground := Ground.phase }, { on := 10, ground := Ground.textOnly Departure.lateStores }], guard := none }) rfl (fun K hK => ?_) AllReadyH.nil
            refine step_store_run (by rfl) 55 (.tmp 10) (.tmp 65) rfl (by rfl) (by rfl) hst ?_
            refine hK.out _ _ (M11.tops.2.2) (fun hH3 => ?_)
            clear hK K hH2
            refine' wpAnyH_take (i := 12) (oi := { dst := some 11, op := Op.assign (Operand.tmp 66), type := 4, pos := "runs.go:149", after := #[{ on := 10, ground := Ground.data }, { on := 11, ground := Ground.chain }, { on := 0, ground := Ground.phase }, { on := 1, ground := Ground.phase }, { on := 2, ground := Ground.phase }, { on := 3, ground := Ground.phase }, { on := 4, ground := Ground.phase }, { on := 5, ground := Ground.phase }, { on := 6, ground := Ground.phase }, { on := 7, ground := Ground.phase }, { on := 8, ground := Ground.phase }, { on := 9, ground := Ground.phase }, { on := 10, ground := Ground.phase }, { on := 11, ground := Ground.phase }], guard := none }) (v := _) rfl (by kernel_rfl) (by kernel_rfl) (by kernel_rfl) (fun _ _ _ h => h) (Or.inl ⟨by rfl, ?hyb12⟩) hH3 ?rb12
            case hyb12 => (intro w' hSw; clear hSw; go_simp; try with_reducible rfl)
            simp only [Act.put, List.setIfInBounds_toArray, List.set_cons_zero, List.set_cons_succ]
            refine wpAnyH_done (by kernel_rfl) ?_ _
            refine NoPanic.normal ?_
            have L11 := L10
            have R11 := ((R9.more ((Keep.refl _ _).drew)).more k10).other k11 (fun g' e => hap9 g' e) (fun x hx => by omega)
            clear L10 hce L9 L9' M9 t9 v0 v1 v2 p0 p1 p2 hst v0' t9'
            go_wp2_with fail
            go_roundw
            case rel =>
              refine ⟨P ++ [y], S, a', c', by rw [show (nearL lo hi (P ++ [y])).length = (nearL lo hi P).length + 1 from hnl], rfl, ⟨?_, ?_, hap9⟩, R11, L11⟩
              · rw [hI'.1]; simp
              · intro x hx; exact hI'.2 x (by simp [hx])
            case measure => simp [slen]; omega
          · have hend : Hid (nearL lo hi m = nearL lo hi P) := by
              show nearL lo hi m = nearL lo hi P
              rw [hI.1, nearL_app, nearL_none (a := y :: S) (fun x hx => ?_), List.append_nil]
              right
              rcases List.mem_cons.1 hx with rfl | hx
              · omega
              · have := (List.pairwise_append.1 hup).2.1
                have := (List.pairwise_cons.1 this).1 x hx
                omega
            clear h L8 hup
            go_wp2_with fail
            go_ret
            exact ⟨a, c, by rw [show nearL lo hi m = nearL lo hi P from hend]; rfl, by rw [show nearL lo hi m = nearL lo hi P from hend]; exact R8⟩
    · have hn : nearL lo hi P = [x] := by rw [hnP]; exact if_neg cx
      clear hnP
      go_enter Try.func48, Try.ntmps48
      go_upto_region 4 with (go_at_call 55; refine hfl.mono ?_; rintro e w2 ⟨rfl, k2⟩)
      have R3 : Rr wa (w2.alloc (.cells (rnA x) 55)) none 0 [] := ⟨World.ownsRow_nil _ _ _ _, k2.alloc _⟩
      have L3 := Lrn.new w2 x
      rw [rnA_lit] at R3 L3
      generalize w2.alloc (.cells #[.int .i64 x.lba, .int .i64 x.len, .int .i64 x.phys] 55) = w3 at R3 L3 ⊢
      generalize w2.heap.size = g3 at L3 ⊢
      obtain ⟨p0, p1, p2⟩ := L3.c
      obtain ⟨a, c, w5, happ, R5⟩ := R3.app1 (by simp) x
      rw [List.nil_append, ← hn] at R5
      rw [List.length_nil, Nat.zero_add] at happ
      clear hfl k2 t2 R3 L3
      go_upto_region 5 with (at_builtin; refine wpList_append_run rfl (.tmp 32) (.tmp 34) 49 rfl (by rfl) (by rfl) happ ?_)
      clear happ p0 p1 p2 cx
      have M5 := h.more R5.keep
      obtain ⟨-, -, t5⟩ := M5.tops
      have hce := M5.ceil lo
      rw [hm, ceilL_split hP hS] at hce
      unfold ansV at hce
      rw [rnA_lit] at hce
      have hap : ∀ g', a = some ⟨g', 0, none⟩ → g' < w5.heap.size := fun g' e => (R5.block e).2
      go_wp2_with (go_at_call 53; refine hce.mono ?_; rintro e w6 ⟨rfl, k6⟩)
      have K7 : Keep (fun _ => False) w5 (w6.alloc (.cells (rnA (S.head?.getD rn0)) 55)) := k6.alloc _
      have L7 := Lrn.new w6 (S.head?.getD rn0)
      have hg7 : wa.heap.size ≤ w6.heap.size := by have := R5.keep.size; have := k6.size; omega
      have R7 := R5.more K7
      have hap7 : ∀ g', a = some ⟨g', 0, none⟩ → ¬ g' = w6.heap.size := fun g' e => by have := hap g' e; have := k6.size; omega
      rw [rnA_lit] at K7 L7 R7
      generalize w6.alloc (.cells #[.int .i64 (S.head?.getD rn0).lba, .int .i64 (S.head?.getD rn0).len, .int .i64 (S.head?.getD rn0).phys] 55) = w7 at K7 L7 R7 ⊢
      generalize w6.heap.size = g at L7 hg7 hap7 ⊢
      clear hce k6 t5 K7 M5 R5 hap
      have hm' : Hid (m = P ++ S) := hm
      have hlen' : Hid (m.length ≤ N ∧ m.length ≤ cap) := hlen
      clear hm hlen
      go_loopw [7, 11] (fun lv ov wx => ∃ (P S : List Rn) (a : Option Addr) (c : Nat), lv = .slice a (nearL lo hi P).length c ∧ ov = .bool S.head?.isSome ∧ Hid (m = P ++ S ∧ (∀ x ∈ S, lo ≤ x.lba) ∧ (∀ g', a = some ⟨g', 0, none⟩ → ¬ g' = g)) ∧ Rr wa wx a c (nearL lo hi P) ∧ Lrn wx g (S.head?.getD rn0)) (fun lv _ _ => 1000 - slen lv)
      case atStart => exact ⟨P, S, a, c, by rw [hn]; rfl, rfl, ⟨hm', hS, hap7⟩, R7, L7⟩
      case round =>
        clear R7 L7 hap7 fP fS fPS hP hS hm' hn
        obtain ⟨P, S, a, c, rfl, rfl, hI, R8, L8⟩ := hrel
        have hrl : (nearL lo hi P).length ≤ 512 := by
          obtain ⟨e, -⟩ := hI
          have : m.length ≤ N ∧ m.length ≤ cap := hlen'
          have h3 : (nearL lo hi P).length ≤ P.length := List.length_filter_le _ _
          rw [e, List.length_append] at this
          omega
        cases S with
        | nil =>
          rw [show ([] : List Rn).head?.isSome = false from rfl]
          have hend : Hid (nearL lo hi m = nearL lo hi P) := by show nearL lo hi m = nearL lo hi P; rw [hI.1, List.append_nil]
          clear h L8
          go_wp2_with fail
          go_ret
          exact ⟨a, c, by rw [show nearL lo hi m = nearL lo hi P from hend]; rfl, by rw [show nearL lo hi m = nearL lo hi P from hend]; exact R8⟩
        | cons y S =>
          rw [show (y :: S).head?.isSome = true from rfl]
          rw [show (y :: S).head?.getD rn0 = y from rfl] at L8
          obtain ⟨p0, p1, p2⟩ := L8.c
          have hy : y ∈ m := by rw [hI.1]; simp
          have hyr := h.run hy
          have hup := h.form.up
          rw [hI.1] at hup
          by_cases c1 : y.lba ≤ hi
          · obtain ⟨a', c', w', happ, R9, k9, hor⟩ := R8.appS (by omega) y
            have hg9 : ∀ x, a = some ⟨x, 0, none⟩ → ¬ g = x := fun x e1 e2 => hI.2.2 x e1 e2.symm
            have L9 : Lrn w' g y := Blk.keep L8 k9 (fun e => hg9 g e rfl)
            have hlt8 : g < wr.heap.size := Blk.lt L8 (by omega)
            have hap9 : ∀ g', a' = some ⟨g', 0, none⟩ → ¬ g' = g := fun g' e => by
              rcases hor with rfl | ⟨g2, rfl, h2⟩
              · exact hI.2.2 g' e
              · injection e with e; injection e with e; omega
            have hnext : nearL lo hi (P ++ [y]) = nearL lo hi P ++ [y] := by
              rw [nearL_app, nearL_pos (by have := hI.2.1 y (by simp); unfold Rn.fin; omega) c1]
            rw [← hnext] at R9
            have M9 := h.more R9.keep
            obtain ⟨-, -, t9⟩ := M9.tops
            have hup' : Tr.Up (P ++ [y] ++ S) := by simpa using hup
            have hsp := List.pairwise_append.1 hup'
            have hceE : Tr.ceilL (y.lba + 1) m none = S.head? := by
              rw [hI.1, show P ++ y :: S = (P ++ [y]) ++ S by simp]
              refine ceilL_split (fun x hx => ?_) (fun x hx => by have := hsp.2.2 y (by simp) x hx; omega)
              rcases List.mem_append.1 hx with hx | hx
              · have := (List.pairwise_append.1 hsp.1).2.2 x hx y (by simp); omega
              · simp at hx; subst hx; omega
            have hce := (M9.more ((Keep.refl (fun _ => False) w').drew)).ceil (y.lba + 1)
            rw [hceE] at hce
            unfold ansV at hce
            rw [rnA_lit] at hce
            have d1 := wrapI (x := y.lba + 1) (by omega) (by omega)
            obtain ⟨v0, v1, v2⟩ := L9.c
            clear hup hup' hsp hceE
            have hI' : Hid (m = P ++ y :: S ∧ (∀ x ∈ y :: S, lo ≤ x.lba)) := ⟨hI.1, hI.2.1⟩
            have hnl : (nearL lo hi (P ++ [y])).length = (nearL lo hi P).length + 1 := by rw [hnext]; simp
            clear hI hor
            go_upto_region 8 with (at_builtin; refine wpList_append_run rfl (.tmp 52) (.tmp 54) 49 rfl (by rfl) (by rfl) happ ?_)
            have L9' : Lrn w'.drew g y := L9
            have t9' : w'.drew.cell? ⟨q, 2, none⟩ = some (.pointer (some ⟨b, 0, none⟩)) := t9
            have v0' : w'.drew.cell? ⟨g, 0, none⟩ = some (.int .i64 y.lba) := v0
            refine wp_region_noPanic ?_
            refine wp_region_held_drew (S := fun wz => wz.cell? ⟨q, 2, none⟩ = some (.pointer (some ⟨b, 0, none⟩))) (by kernel_rfl) (t9') (fun hH0 => ?_)
            refine' wpAnyH_take (i := 0) (oi := { dst := some 57, op := Op.move (Operand.tmp 0), type := 39, pos := "runs.go:149", after := #[], guard := none }) (v := _) rfl (by kernel_rfl) (by kernel_rfl) (by kernel_rfl) (fun _ _ _ h => h) (Or.inl ⟨by rfl, ?hyc0⟩) hH0 ?rc0
            case hyc0 => (intro w' hSw; clear hSw; go_simp; try with_reducible rfl)
            simp only [Act.put, List.setIfInBounds_toArray, List.set_cons_zero, List.set_cons_succ]
            refine' wpAnyH_take (i := 1) (oi := { dst := some 58, op := Op.nilCheck (Operand.tmp 57), type := 0, pos := "runs.go:149", after := #[{ on := 0, ground := Ground.data }], guard := none }) (v := _) rfl (by kernel_rfl) (by kernel_rfl) (by kernel_rfl) (fun _ _ _ h => h) (Or.inl ⟨by rfl, ?hyc1⟩) hH0 ?rc1
            case hyc1 => (intro w' hSw; clear hSw; go_simp; try with_reducible rfl)
            simp only [Act.put, List.setIfInBounds_toArray, List.set_cons_zero, List.set_cons_succ]
            refine' wpAnyH_take (i := 2) (oi := { dst := some 59, op := Op.fieldAddr 71 (Operand.tmp 58) 2, type := 0, pos := "runs.go:149", after := #[{ on := 1, ground := Ground.data }], guard := none }) (v := _) rfl (by kernel_rfl) (by kernel_rfl) (by kernel_rfl) (fun _ _ _ h => h) (Or.inl ⟨by rfl, ?hyc2⟩) hH0 ?rc2
            case hyc2 => (intro w' hSw; clear hSw; go_simp; try with_reducible rfl)
            simp only [Act.put, List.setIfInBounds_toArray, List.set_cons_zero, List.set_cons_succ]
            refine' wpAnyH_take (i := 3) (oi := { dst := some 60, op := Op.load 68 (Operand.tmp 59), type := 68, pos := "runs.go:149", after := #[{ on := 2, ground := Ground.data }], guard := none }) (v := _) rfl (by kernel_rfl) (by kernel_rfl) (by kernel_rfl) (fun _ _ _ h => h) (Or.inl ⟨by rfl, ?hyc3⟩) hH0 ?rc3
            case hyc3 => (intro w' hSw; go_simp; try with_reducible rfl)
            simp only [Act.put, List.setIfInBounds_toArray, List.set_cons_zero, List.set_cons_succ]
            refine' wpAnyH_take (i := 4) (oi := { dst := some 61, op := Op.fieldAddr 55 (Operand.tmp 10) 0, type := 0, pos := "runs.go:149", after := #[], guard := none }) (v := _) rfl (by kernel_rfl) (by kernel_rfl) (by kernel_rfl) (fun _ _ _ h => h) (Or.inl ⟨by rfl, ?hyc4⟩) hH0 ?rc4
            case hyc4 => (intro w' hSw; clear hSw; go_simp; try with_reducible rfl)
            simp only [Act.put, List.setIfInBounds_toArray, List.set_cons_zero, List.set_cons_succ]
            refine wpAnyH_ready (rs := [5]) (by kernel_rfl) (by simp) ?_
            refine AllReadyH.cons (o := { dst := some 62, op := Op.load 3 (Operand.tmp 61), type := 3, pos := "runs.go:149", after := #[{ on := 4, ground := Ground.data }], guard := none }) rfl (fun K hK => ?_) AllReadyH.nil
            refine step_load_run (by rfl) 3 (.tmp 61) rfl (by rfl) (load_i64 v0') ?_
            refine hK.out _ _ (t9') (fun hH1 => ?_)
            clear hK K hH0
            simp only [Act.put, List.setIfInBounds_toArray, List.set_cons_zero, List.set_cons_succ]
            refine' wpAnyH_take (i := 6) (oi := { dst := some 63, op := Op.binOp BinOp.add 3 (Operand.tmp 62) (Operand.const (Value.int IntKind.i64 1)) 3, type := 3, pos := "runs.go:149", after := #[{ on := 5, ground := Ground.data }], guard := none }) (v := _) rfl (by kernel_rfl) (by kernel_rfl) (by kernel_rfl) (fun _ _ _ h => h) (Or.inl ⟨by rfl, ?hyc6⟩) hH1 ?rc6
            case hyc6 => (intro w' hSw; clear hSw; go_simp; try with_reducible rfl)
            simp only [Act.put, List.setIfInBounds_toArray, List.set_cons_zero, List.set_cons_succ]
            refine wpAnyH_ready (rs := [7]) (by kernel_rfl) (by simp) ?_
            refine AllReadyH.cons (o := { dst := some 64, op := Op.call { callee := Callee.value (Operand.func 53), args := #[Operand.tmp 60, Operand.tmp 63], argTypes := #[68, 3] }, type := 74, pos := "runs.go:149", after := #[{ on := 3, ground := Ground.data }, { on := 6, ground := Ground.data }], guard := none }) rfl (fun K hK => ?_) AllReadyH.nil
            refine step_call_want (vs := #[.pointer (some ⟨b, 0, none⟩), .int .i64 (y.lba + 1)]) (R := fun u wz => u = .tuple #[.agg #[.int .i64 (S.head?.getD rn0).lba, .int .i64 (S.head?.getD rn0).len, .int .i64 (S.head?.getD rn0).phys], .bool S.head?.isSome] ∧ Keep (fun _ => False) w'.drew wz) (by rfl) 53 #[Operand.tmp 60, Operand.tmp 63] #[68, 3] rfl (by simp [Act.eval]) call53 (post_of hce) ?_
            rintro _ w10 ⟨rfl, k10⟩
            refine hK.out _ _ ((M9.more (((Keep.refl (fun _ => False) w').drew).trans k10)).tops.2.2) (fun hH2 => ?_)
            clear hK K hH1
            simp only [Act.put, List.setIfInBounds_toArray, List.set_cons_zero, List.set_cons_succ]
            refine' wpAnyH_take (i := 8) (oi := { dst := some 56, op := Op.move (Operand.tmp 64), type := 74, pos := "runs.go:149", after := #[{ on := 7, ground := Ground.data }], guard := none }) (v := _) rfl (by kernel_rfl) (by kernel_rfl) (by kernel_rfl) (fun _ _ _ h => h) (Or.inl ⟨by rfl, ?hyc8⟩) hH2 ?rc8
            case hyc8 => (intro w' hSw; clear hSw; go_simp; try with_reducible rfl)
            simp only [Act.put, List.setIfInBounds_toArray, List.set_cons_zero, List.set_cons_succ]
            refine' wpAnyH_take (i := 9) (oi := { dst := some 65, op := Op.extract (Operand.tmp 56) 0, type := 55, pos := "runs.go:149", after := #[{ on := 8, ground := Ground.data }], guard := none }) (v := _) rfl (by kernel_rfl) (by kernel_rfl) (by kernel_rfl) (fun _ _ _ h => h) (Or.inl ⟨by rfl, ?hyc9⟩) hH2 ?rc9
            case hyc9 => (intro w' hSw; clear hSw; go_simp; try with_reducible rfl)
            simp only [Act.put, List.setIfInBounds_toArray, List.set_cons_zero, List.set_cons_succ]
            refine' wpAnyH_take (i := 10) (oi := { dst := some 66, op := Op.extract (Operand.tmp 56) 1, type := 4, pos := "runs.go:149", after := #[{ on := 8, ground := Ground.data }, { on := 11, ground := Ground.gcOnly Departure.lateStores }], guard := none }) (v := _) rfl (by kernel_rfl) (by kernel_rfl) (by kernel_rfl) (fun _ _ _ h => h) (Or.inl ⟨by rfl, ?hyc10⟩) hH2 ?rc10
            case hyc10 => (intro w' hSw; clear hSw; go_simp; try with_reducible rfl)
            simp only [Act.put, List.setIfInBounds_toArray, List.set_cons_zero, List.set_cons_succ]
            obtain ⟨w11, hst, L10, k11⟩ := (L9'.more k10).over (S.head?.getD rn0)
            have M11 := (M9.more (((Keep.refl (fun _ => False) w').drew).trans k10)).other k11 (fun x e => by have := h.keep.size; omega) (fun e => by have := h.lt; omega) (fun e => by have := h.lt; omega) (fun e => by have := h.lt; omega) (fun e => by have := h.lt; omega)
            refine wpAnyH_ready (rs := [11]) (by kernel_rfl) (by simp) ?_
            refine AllReadyH.cons (o := { dst := none, op := Op.store 55 (Operand.tmp 10) (Operand.tmp 65), type := 0, pos := "runs.go:149", after := #[{ on := 9, ground := Ground.data }, { on := 7, ground := Ground.chain }, { on := 0, ground := Ground.phase }, { on := 1, ground := Ground.phase }, { on := 2, ground := Ground.phase }, { on := 3, ground := Ground.phase }, { on := 4, ground := Ground.phase }, { on := 5, ground := Ground.phase }, { on := 6, ground := Ground.phase }, { on := 7, ground := Ground.phase }, { on := 8, ground := Ground.phase }, { on := 9, ground := Ground.phase }, { on := 10, ground := Ground.textOnly Departure.lateStores }], guard := none }) rfl (fun K hK => ?_) AllReadyH.nil
            refine step_store_run (by rfl) 55 (.tmp 10) (.tmp 65) rfl (by rfl) (by rfl) hst ?_
            refine hK.out _ _ (M11.tops.2.2) (fun hH3 => ?_)
            clear hK K hH2
            refine' wpAnyH_take (i := 12) (oi := { dst := some 11, op := Op.assign (Operand.tmp 66), type := 4, pos := "runs.go:149", after := #[{ on := 10, ground := Ground.data }, { on := 11, ground := Ground.chain }, { on := 0, ground := Ground.phase }, { on := 1, ground := Ground.phase }, { on := 2, ground := Ground.phase }, { on := 3, ground := Ground.phase }, { on := 4, ground := Ground.phase }, { on := 5, ground := Ground.phase }, { on := 6, ground := Ground.phase }, { on := 7, ground := Ground.phase }, { on := 8, ground := Ground.phase }, { on := 9, ground := Ground.phase }, { on := 10, ground := Ground.phase }, { on := 11, ground := Ground.phase }], guard := none }) (v := _) rfl (by kernel_rfl) (by kernel_rfl) (by kernel_rfl) (fun _ _ _ h => h) (Or.inl ⟨by rfl, ?hyc12⟩) hH3 ?rc12
            case hyc12 => (intro w' hSw; clear hSw; go_simp; try with_reducible rfl)
            simp only [Act.put, List.setIfInBounds_toArray, List.set_cons_zero, List.set_cons_succ]
            refine wpAnyH_done (by kernel_rfl) ?_ _
            refine NoPanic.normal ?_
            have L11 := L10
            have R11 := ((R9.more ((Keep.refl _ _).drew)).more k10).other k11 (fun g' e => hap9 g' e) (fun x hx => by omega)
            clear L10 hce L9 L9' M9 t9 v0 v1 v2 p0 p1 p2 hst v0' t9'
            go_wp2_with fail
            go_roundw
            case rel =>
              refine ⟨P ++ [y], S, a', c', by rw [show (nearL lo hi (P ++ [y])).length = (nearL lo hi P).length + 1 from hnl], rfl, ⟨?_, ?_, hap9⟩, R11, L11⟩
              · rw [hI'.1]; simp
              · intro x hx; exact hI'.2 x (by simp [hx])
            case measure => simp [slen]; omega
          · have hend : Hid (nearL lo hi m = nearL lo hi P) := by
              show nearL lo hi m = nearL lo hi P
              rw [hI.1, nearL_app, nearL_none (a := y :: S) (fun x hx => ?_), List.append_nil]
              right
              rcases List.mem_cons.1 hx with rfl | hx
              · omega
              · have := (List.pairwise_append.1 hup).2.1
                have := (List.pairwise_cons.1 this).1 x hx
                omega
            clear h L8 hup
            go_wp2_with fail
            go_ret
            exact ⟨a, c, by rw [show nearL lo hi m = nearL lo hi P from hend]; rfl, by rw [show nearL lo hi m = nearL lo hi P from hend]; exact R8⟩
end Tg
end Go.Proofs.Ytbdankhlbepjoaa
