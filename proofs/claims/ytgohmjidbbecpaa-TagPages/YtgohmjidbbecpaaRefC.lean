/-
  What both Decodes answer for any bytes; bytes made fit by the document's own sum and mark.
-/
import Derived.Test.YtgohmjidbbecpaaRefB
namespace Go.Proofs.Ytgohmjidbbecpaa
open Go.ChangeShapes Go.WideShapes Go.ChangeAt Go.RowKit
namespace Tg
open Crc
/-- The page that bytes tell; none, if they are no page. -/
def dpage (n : Nat) (c : Nat → Int) : Array Value := if dcode n c = 0 then pageA (c 0) (fun j => num (fun i => c (4 + 4 * j + i)) 4) (fun i => c (28 + i)) else noPage

theorem dcode_68 {n : Nat} {c : Nat → Int} (h : dcode n c = 0) : n = 68 := by
  unfold dcode at h
  by_cases e : n = 68
  · exact e
  · rw [if_pos e] at h; omega

theorem dec_any {w : World} {a : Option Addr} {n cap : Nat} {c : Nat → Int} (hr : Row w a n cap (tab n c)) :
    Calls Try.prog 10 #[.slice a n cap] w fun e w' => e = .returned (.tuple #[.agg (dpage n c), .int .i64 (dcode n c)]) ∧ Keep (fun _ => False) w w' := by
  unfold dpage
  by_cases h : dcode n c = 0
  · obtain rfl := dcode_68 h
    obtain ⟨b, o, rfl, _⟩ := hr.cells (by omega)
    rw [if_pos h, h]
    exact dec_yes hr h
  · rw [if_neg h]
    exact dec_no hr h

theorem rdec_any {w : World} {a : Option Addr} {n cap : Nat} {c : Nat → Int} (hr : Row w a n cap (tab n c)) :
    Calls Try.prog 16 #[.slice a n cap] w fun e w' => e = .returned (.tuple #[.agg (dpage n c), .int .i64 (dcode n c)]) ∧ Keep (fun _ => False) w w' := by
  by_cases hn : n = 68
  · subst hn
    by_cases hcl : cleanB (tab 68 c) = true
    · have e : dcode 68 c = 4 := by unfold dcode; rw [if_neg (fun h => h rfl), if_pos hcl]
      unfold dpage
      rw [if_neg (by rw [e]; decide), e]
      exact rdec_clean hr hcl
    · have hcl' : cleanB (tab 68 c) = false := by simpa using hcl
      have hb := hr.bd
      obtain ⟨b, o, rfl, hc⟩ := hr.cells (by omega)
      by_cases hm : c 64 = 68 ∧ c 65 = 79 ∧ c 66 = 78 ∧ c 67 = 69
      · by_cases hne : num (fun i => c (60 + i)) 4 = val (more 0#32 (tab 60 c))
        · by_cases hf : 1 ≤ c 0 ∧ c 0 ≤ 3 ∧ c 1 = 0 ∧ c 2 = 0 ∧ c 3 = 0
          · have e : dcode 68 c = 0 := by unfold dcode; rw [if_neg (fun h => h rfl), if_neg hcl, if_neg (not_not_intro hm), if_neg (not_not_intro hne), if_neg (not_not_intro hf)]
            unfold dpage
            rw [if_pos e, e]
            exact rdec_yes hr hb hc hcl' hm hne hf
          · have e : dcode 68 c = 11 := by unfold dcode; rw [if_neg (fun h => h rfl), if_neg hcl, if_neg (not_not_intro hm), if_neg (not_not_intro hne), if_pos hf]
            unfold dpage
            rw [if_neg (by rw [e]; decide), e]
            exact rdec_form hr hb hc hcl' hm hne hf
        · have e : dcode 68 c = 10 := by unfold dcode; rw [if_neg (fun h => h rfl), if_neg hcl, if_neg (not_not_intro hm), if_pos hne]
          unfold dpage
          rw [if_neg (by rw [e]; decide), e]
          exact rdec_crc hr hb hc hcl' hm hne
      · have e : dcode 68 c = 9 := by unfold dcode; rw [if_neg (fun h => h rfl), if_neg hcl, if_pos hm]
        unfold dpage
        rw [if_neg (by rw [e]; decide), e]
        exact rdec_torn hr hc hcl' hm
  · have e : dcode n c = 1 := by unfold dcode; rw [if_pos hn]
    unfold dpage
    rw [if_neg (by rw [e]; decide), e]
    exact rdec_len hn

/-- A call whose contract is known, as one step of a region that draws. -/
theorem Keep.undrew' {S : Nat → Prop} {a w : World} (h : Keep S a.drew w) : Keep S a w := ⟨h.os, h.tape, h.output, h.size, h.block⟩
theorem step_call_post {P : Program} {ops : Array Oper} {o : Oper} {a : Act} {w : World} {K : Act → World → Prop} {Q : Exit → Act → World → Prop} {E : Prop}
    (hg : o.guard = none) (f : FuncId) (xs : Array Operand) (ts : Array TypeId) (hop : o.op = Op.call { callee := Callee.value (.func f), args := xs, argTypes := ts })
    {vs : Array Value} {R : Value → World → Prop} (hx : xs.map a.eval = vs) (he : ∀ args w, (callFunc f args).run P w = .ok (.enter f args) w) (hc : Calls P f vs w fun e w2 => ∃ v, e = .returned v ∧ R v w2)
    (hK : ∀ v w', R v w' → K (a.put o.dst v) w') : if Region.wanted o (yielded ops a.tmps) = true then Oper.wp P o a w K Q else E := by
  have hw : Region.wanted o (yielded ops a.tmps) = true := by simp [Region.wanted, hg]
  rw [if_pos hw]
  subst hx
  obtain ⟨dst, op, ty, pos, after, guard⟩ := o
  simp only at hop
  subst hop
  unfold Oper.wp
  rw [execOp_call_go, he, Oper.upon_enter]
  simp only [Array.empty_append, Array.append_empty]
  exact hc.mono (by rintro e w2 ⟨v, rfl, hr⟩; exact hK v w2 hr)
theorem step_append_run {P : Program} {ops : Array Oper} {o : Oper} {a : Act} {w : World} {K : Act → World → Prop} {Q : Exit → Act → World → Prop} {E : Prop}
    (hg : o.guard = none) (s x : Operand) (t : TypeId) (hop : o.op = Op.call { callee := Callee.builtin Builtin.append, args := #[s, x], argTypes := #[t, t] })
    {v1 v2 v' : Value} {w' : World} (hs : a.eval s = v1) (hx : a.eval x = v2) (hrun : (Builtin.append_ #[t, t] o.type #[v1, v2]).run P w = .ok v' w')
    (hK : K (a.put o.dst v') w') : if Region.wanted o (yielded ops a.tmps) = true then Oper.wp P o a w K Q else E := by
  have hw : Region.wanted o (yielded ops a.tmps) = true := by simp [Region.wanted, hg]
  rw [if_pos hw]
  unfold Oper.wp
  simp [execOp, hop, resolve, invoke, builtin, hs, hx, hrun, Result.andThen]
  exact hK
theorem call24 (args : Array Value) (w : World) : (callFunc 24 args).run Try.prog w = .ok (.enter 24 args) w := enters Try.func24 (by kernel_rfl) (by kernel_rfl) args w
theorem call23 (args : Array Value) (w : World) : (callFunc 23 args).run Try.prog w = .ok (.enter 23 args) w := enters Try.func23 (by kernel_rfl) (by kernel_rfl) args w

theorem Gr.start (w : World) : Gr w (w.alloc (.cells #[] 5)) w.heap.size 0 [] := ⟨⟨rfl, by simp, by omega, by simp, Or.inl rfl⟩, fun i hi => by omega, Nat.le_refl _, (Keep.refl _ _).alloc _⟩

/-- The first 60 bytes, their sum, the mark. -/
def fitted (l : List Int) : List Int := l.take 60 ++ bytes4 (val (more 0#32 (l.take 60))) ++ [68, 79, 78, 69]

set_option maxHeartbeats 1000000 in
theorem fit_any {w : World} {b o len cap : Nat} {l : List Int} (hr : Row w (some ⟨b, o, none⟩) len cap l) (hl : 60 ≤ len) :
    Calls Try.prog 15 #[.slice (some ⟨b, o, none⟩) len cap] w fun e w' => ∃ g' cap', e = .returned (.slice (some ⟨g', 0, none⟩) 68 cap') ∧ Gr w w' g' cap' (fitted l) := by
  have hlc := hr.2.1
  have hcap := hr.2.2.1
  have hrow : ∀ w', Row w' (some ⟨b, o, none⟩) len cap l → Row w' (some ⟨b, o, none⟩) 60 cap (l.take 60) := fun w' h =>
    Row.init (m := l.drop 60) (by
      have e1 : 60 + (l.drop 60).length = len := by rw [List.length_drop, h.1]; omega
      rw [e1, List.take_append_drop]; exact h)
  have hsum : ∀ w', Row w' (some ⟨b, o, none⟩) len cap l → Calls Try.prog 24 #[.slice (some ⟨b, o, none⟩) 60 cap] w' fun e w'' => e = .returned (.int .u32 (val (more 0#32 (l.take 60)))) ∧ w'' = w' := fun w' h => refsum_any _ _ _ _ _ (hrow w' h)
  have hvb := val_bd (more 0#32 (l.take 60))
  have hbl : (l.take 60).length = 60 := by rw [List.length_take, hr.1]; omega
  have hd1 : (60 : Int) ≤ len := by omega
  have hd2 : (60 : Int) ≤ cap := by omega
  obtain ⟨g1, cap1, w1, hrun1, hG1⟩ := (Gr.start w.drew).app rfl ((hrow _ (hr.keep (((Keep.refl (fun _ => False) w).drew).alloc (.cells #[] 5)) (fun _ _ _ e => e)))) (by simp)
  rw [List.nil_append] at hG1
  have hput := rput_any hG1 (by rw [hbl]; omega) (val (more 0#32 (l.take 60))) 60 hbl.symm
  simp only [List.length_nil, Nat.zero_add] at hrun1
  unfold fitted
  generalize val (more 0#32 (l.take 60)) = x at *
  go_enter Try.func15, Try.ntmps15
  go_wp2_with fail
  refine wp_region_noPanic ?_
  refine wp_region_held_drew (S := fun w' => Row w' (some ⟨b, o, none⟩) len cap l) (by kernel_rfl) (hr.keep ((Keep.refl (fun _ => False) w).drew) (fun _ _ _ e => e)) (fun hHeld => ?_)
  refine' wpAnyH_take (i := 1) (oi := { dst := some 5, op := Op.move (Operand.tmp 0), type := 23, pos := "ref.go:85", after := #[], guard := none }) (v := _) rfl (by kernel_rfl) (by kernel_rfl) (by kernel_rfl) (fun _ _ _ h => h) (Or.inl ⟨by rfl, ?hy1⟩) hHeld ?r1
  case hy1 => (intro w' hSw; (try dsimp only at hSw); go_simp; try with_reducible rfl)
  simp only [Act.put, List.setIfInBounds_toArray, List.set_cons_zero, List.set_cons_succ]
  refine' wpAnyH_take (i := 2) (oi := { dst := some 6, op := Op.slice 23 (Operand.tmp 5) none (some (Operand.const (Value.int IntKind.i64 60))) none, type := 23, pos := "ref.go:85", after := #[{ on := 1, ground := Ground.data }], guard := none }) (v := _) rfl (by kernel_rfl) (by kernel_rfl) (by kernel_rfl) (fun _ _ _ h => h) (Or.inl ⟨by rfl, ?hy2⟩) hHeld ?r2
  case hy2 => (intro w' hSw; (try dsimp only at hSw); go_simp; try with_reducible rfl)
  simp only [Act.put, List.setIfInBounds_toArray, List.set_cons_zero, List.set_cons_succ]
  refine' wpAnyH_take (i := 4) (oi := { dst := some 8, op := Op.move (Operand.tmp 0), type := 23, pos := "ref.go:85", after := #[], guard := none }) (v := _) rfl (by kernel_rfl) (by kernel_rfl) (by kernel_rfl) (fun _ _ _ h => h) (Or.inl ⟨by rfl, ?hy4⟩) hHeld ?r4
  case hy4 => (intro w' hSw; (try dsimp only at hSw); go_simp; try with_reducible rfl)
  simp only [Act.put, List.setIfInBounds_toArray, List.set_cons_zero, List.set_cons_succ]
  refine' wpAnyH_take (i := 5) (oi := { dst := some 9, op := Op.slice 23 (Operand.tmp 8) none (some (Operand.const (Value.int IntKind.i64 60))) none, type := 23, pos := "ref.go:85", after := #[{ on := 4, ground := Ground.data }], guard := none }) (v := _) rfl (by kernel_rfl) (by kernel_rfl) (by kernel_rfl) (fun _ _ _ h => h) (Or.inl ⟨by rfl, ?hy5⟩) hHeld ?r5
  case hy5 => (intro w' hSw; (try dsimp only at hSw); go_simp; try with_reducible rfl)
  simp only [Act.put, List.setIfInBounds_toArray, List.set_cons_zero, List.set_cons_succ]
  refine wpAnyH_ready (rs := [0]) (by kernel_rfl) (by simp) ?_
  refine AllReadyH.cons (o := { dst := some 4, op := Op.buildSlice 23 0 #[], type := 23, pos := "ref.go:85", after := #[], guard := none }) rfl (fun K hK => ?_) AllReadyH.nil
  go_simp
  refine hK.out _ _ (hHeld.keep ((Keep.refl (fun _ => False) _).alloc _) (fun _ _ _ e => e)) (fun hHeld2 => ?_)
  clear hK K hHeld
  refine wpAnyH_ready (rs := [3]) (by kernel_rfl) (by simp) ?_
  refine AllReadyH.cons (o := { dst := some 7, op := Op.call { callee := Callee.builtin Builtin.append, args := #[Operand.tmp 4, Operand.tmp 6], argTypes := #[23, 23] }, type := 23, pos := "ref.go:85", after := #[{ on := 0, ground := Ground.data }, { on := 2, ground := Ground.data }], guard := none }) rfl (fun K hK => ?_) AllReadyH.nil
  refine step_append_run rfl (.tmp 4) (.tmp 6) 23 rfl (by rfl) (by rfl) hrun1 ?_
  refine hK.out _ _ (hr.keep (hG1.keep.undrew') (fun _ _ _ e => e)) (fun hHeld3 => ?_)
  clear hK K hHeld2
  simp only [Act.put, List.setIfInBounds_toArray, List.set_cons_zero, List.set_cons_succ]
  refine' Calm.take (i := 6) (oi := { dst := some 10, op := Op.call { callee := Callee.value (Operand.func 24), args := #[Operand.tmp 9], argTypes := #[23] }, type := 27, pos := "ref.go:85", after := #[{ on := 5, ground := Ground.data }, { on := 3, ground := Ground.chain }], guard := none }) (v := .int .u32 x) rfl (by kernel_rfl) (by kernel_rfl) (by kernel_rfl) (fun _ _ _ h => h) ⟨rfl, 24, #[.slice (some ⟨b, o, none⟩) 60 cap], fun w' hw' => ⟨?hr6, hsum _ hw'⟩⟩ hHeld3 ?r6
  case hr6 => rw [execOp_call_go, call24]; simp [Act.eval]
  simp only [Act.put, List.setIfInBounds_toArray, List.set_cons_zero, List.set_cons_succ]
  refine wpAnyH_ready (rs := [7]) (by kernel_rfl) (by simp) ?_
  refine AllReadyH.cons (o := { dst := some 11, op := Op.call { callee := Callee.value (Operand.func 23), args := #[Operand.tmp 7, Operand.tmp 10], argTypes := #[23, 27] }, type := 23, pos := "ref.go:85", after := #[{ on := 3, ground := Ground.data }, { on := 6, ground := Ground.data }, { on := 6, ground := Ground.chain }], guard := none }) rfl (fun K hK => ?_) AllReadyH.nil
  have hput' : Calls Try.prog 23 #[.slice (some ⟨g1, 0, none⟩) 60 cap1, .int .u32 x] w1 fun e w2 => ∃ v, e = .returned v ∧ (fun v w2 => ∃ g' cap', v = Value.slice (some ⟨g', 0, none⟩) 64 cap' ∧ Gr w.drew w2 g' cap' (l.take 60 ++ bytes4 x)) v w2 :=
    hput.mono (fun e w2 h => by obtain ⟨g', cap', rfl, h⟩ := h; exact ⟨_, rfl, g', cap', rfl, h⟩)
  refine step_call_post (vs := #[.slice (some ⟨g1, 0, none⟩) 60 cap1, .int .u32 x]) (R := fun v w2 => ∃ g' cap', v = Value.slice (some ⟨g', 0, none⟩) 64 cap' ∧ Gr w.drew w2 g' cap' (l.take 60 ++ bytes4 x)) rfl 23 #[.tmp 7, .tmp 10] #[23, 27] rfl (by simp [Act.eval]) call23 hput' ?_
  rintro v w2 ⟨g2, cap2, rfl, hG2⟩
  refine hK.out _ _ (hr.keep (hG2.keep.undrew') (fun _ _ _ e => e)) (fun hHeld4 => ?_)
  clear hK K hHeld3
  simp only [Act.put, List.setIfInBounds_toArray, List.set_cons_zero, List.set_cons_succ]
  refine' wpAnyH_take (i := 8) (oi := { dst := some 3, op := Op.assign (Operand.tmp 11), type := 23, pos := "ref.go:85", after := #[{ on := 7, ground := Ground.data }, { on := 7, ground := Ground.chain }, { on := 0, ground := Ground.phase }, { on := 1, ground := Ground.phase }, { on := 2, ground := Ground.phase }, { on := 3, ground := Ground.phase }, { on := 4, ground := Ground.phase }, { on := 5, ground := Ground.phase }, { on := 6, ground := Ground.phase }, { on := 7, ground := Ground.phase }], guard := none }) (v := _) rfl (by kernel_rfl) (by kernel_rfl) (by kernel_rfl) (fun _ _ _ h => h) (Or.inl ⟨by rfl, ?hy8⟩) hHeld4 ?r8
  case hy8 => (intro w' hSw; (try dsimp only at hSw); go_simp; try with_reducible rfl)
  simp only [Act.put, List.setIfInBounds_toArray, List.set_cons_zero, List.set_cons_succ]
  refine wpAnyH_done (by kernel_rfl) ?_ _
  refine NoPanic.normal ?_
  have hl64 : (l.take 60 ++ bytes4 x).length = 64 := by rw [List.length_append, hbl]; rfl
  have hK4 : Keep (fun _ => False) w2 (w2.alloc (.cells #[.int .u8 68, .int .u8 79, .int .u8 78, .int .u8 69] 5)) := (Keep.refl _ _).alloc _
  obtain ⟨g3, cap3, w3, hrun3, hG3⟩ := (hG2.more hK4).app hl64 (row_new w2 [68, 79, 78, 69] (0, 0) w2.heap.size 4 rfl (by simp) (by omega) (by decide)) (by simp)
  simp only [List.length_cons, List.length_nil, Nat.zero_add, Nat.reduceAdd] at hrun3
  clear hHeld4 hput hput' hrun1
  go_wp2_with (at_builtin; refine wpList_append_run rfl (.tmp 12) (.tmp 13) 23 rfl (by rfl) (by rfl) hrun3 ?_)
  go_ret
  exact ⟨_, _, rfl, ⟨hG3.row, hG3.free, hG3.new, hG3.keep.undrew'⟩⟩
end Tg
end Go.Proofs.Ytgohmjidbbecpaa
