/-
  LeafWhole's body, given what the program's own calls answer.
-/
import Derived.Test.YtginnojbmpnleaaLu
namespace Go.Proofs.Ytginnojbmpnleaa
open Go.ChangeShapes Go.WideShapes Go.ChangeAt Go.RowKit
namespace Tg
theorem call13 (args : Array Value) (w : World) : (callFunc 13 args).run Try.prog w = .ok (.enter 13 args) w := enters Try.func13 (by kernel_rfl) (by kernel_rfl) args w
/-- A row behind a row of one's own, its sizes as letters. -/
theorem Ro.appY {w0 w : World} {a b : Option Addr} {cap c n1 n2 n3 : Nat} {m ns : List Pg} (h : Ro w0 w a cap m) (hz : Rg w b c ns) (hb : b ≠ none) (hm : m.length = n1) (hn : ns.length = n2) (h3 : n1 + n2 = n3) (hl : n3 ≤ 1000000) :
    ∃ a' cap' w', (Builtin.append_ #[23, 23] 23 #[.slice a n1 cap, .slice b n2 c]).run Try.prog w = .ok (.slice a' n3 cap') w' ∧ Ro w0 w' a' cap' (m ++ ns) ∧ (m ++ ns).length = n3 := by
  subst hm hn h3
  obtain ⟨a', cap', w', h1, h2, -, -⟩ := h.appZ hz (fun e => absurd e hb) hl
  exact ⟨a', cap', w', h1, h2, by simp⟩
theorem cutP_some {x : Addr} {c t : Nat} : cutP (some x) c t ≠ none := by unfold cutP; split <;> simp
theorem mem_turn {α : Type} {l : List α} {k : Nat} {x : α} : (x ∈ l.drop k ∨ x ∈ l.take (k + 1)) ↔ x ∈ l := by
  refine ⟨fun h => h.elim List.mem_of_mem_drop List.mem_of_mem_take, fun h => ?_⟩
  obtain ⟨i, hi⟩ := List.mem_iff_getElem?.1 h
  by_cases c : i < k + 1
  · right
    refine List.mem_iff_getElem?.2 ⟨i, ?_⟩
    rw [List.getElem?_take, if_pos c, hi]
  · left
    refine List.mem_iff_getElem?.2 ⟨i - k, ?_⟩
    rw [List.getElem?_drop, show k + (i - k) = i by omega, hi]
theorem mem_first {α : Type} {l : List α} {y x : α} (h0 : l[0]? = some y) : (x ∈ l.drop 1 ∨ x = y) ↔ x ∈ l := by
  cases l with
  | nil => simp at h0
  | cons z l =>
    simp at h0
    subst h0
    simp [or_comm]
theorem pgS_inj {s : St} {i j : Nat} (h : pgS s i = pgS s j) : i = j := by
  have : (pgS s i).ix = (pgS s j).ix := by rw [h]
  simp only [pgS] at this
  omega
theorem mem_less {s : St} {d : Nat} {x : Pg} : (x ∈ (cutL s).take d ∨ x ∈ (cutL s).drop (d + 1)) ↔ x ∈ cutL s ∧ x ≠ pgS s d := by
  constructor
  · rintro (h | h)
    · refine ⟨List.mem_of_mem_take h, ?_⟩
      obtain ⟨i, hi⟩ := List.mem_iff_getElem?.1 h
      rw [List.getElem?_take] at hi
      split at hi
      · next hd =>
        intro e
        obtain ⟨hn, h2⟩ := List.getElem?_eq_some_iff.1 hi
        rw [cutL_len] at hn
        rw [cutL_get s hn] at hi
        injection hi with hi
        have := pgS_inj (hi.trans e)
        omega
      · cases hi
    · refine ⟨List.mem_of_mem_drop h, ?_⟩
      obtain ⟨i, hi⟩ := List.mem_iff_getElem?.1 h
      rw [List.getElem?_drop] at hi
      intro e
      obtain ⟨hn, h2⟩ := List.getElem?_eq_some_iff.1 hi
      rw [cutL_len] at hn
      rw [cutL_get s hn] at hi
      injection hi with hi
      have := pgS_inj (hi.trans e)
      omega
  · rintro ⟨h, hne⟩
    obtain ⟨i, hi, rfl⟩ := mem_cutL.1 h
    have hg := cutL_get s hi
    have hid : i ≠ d := fun e => hne (by rw [e])
    by_cases c : i < d
    · left
      exact List.mem_iff_getElem?.2 ⟨i, by rw [List.getElem?_take, if_pos c, hg]⟩
    · right
      exact List.mem_iff_getElem?.2 ⟨i - (d + 1), by rw [List.getElem?_drop, show d + 1 + (i - (d + 1)) = i by omega, hg]⟩
theorem post_join {vs : Array Value} {l : List Pg} {w : World} (h : Calls Try.prog 13 vs w fun e w' => ∃ a' c' rs L, e = .returned (.slice a' rs.length c') ∧ Rws w' a' c' rs ∧ Says w' rs L ∧ JoinS l L ∧ Keep (fun _ => False) w w') : Calls Try.prog 13 vs w fun e w2 => ∃ u, e = .returned u ∧ (fun (u : Value) wz => ∃ a' c' rs L, u = .slice a' (List.length rs) c' ∧ Rws wz a' c' rs ∧ Says wz rs L ∧ JoinS l L ∧ Keep (fun _ => False) w wz) u w2 :=
  h.mono (fun _ _ ⟨a', c', rs, L, h1, h2⟩ => ⟨_, h1, a', c', rs, L, rfl, h2⟩)
set_option maxRecDepth 100000 in
set_option maxHeartbeats 2000000 in
theorem whole_walk (HA : AwOk) (HC : CutOk) (HJ : JoinOk) {w : World} {a a2 : Option Addr} {len cap len2 cap2 : Nat} {b b2 : List Int} (hr : Row w a len cap b) (hr2 : Row w a2 len2 cap2 b2) (turn less : Int) :
    Calls Try.prog 6 #[.slice a len cap, .int .i64 turn, .int .i64 less, .slice a2 len2 cap2] w fun e w' => e = .returned (.bool true) ∧ Keep (fun _ => False) w w' := by
  have hl1 := hr.1
  have hl2 := hr2.1
  go_enter Try.func6, Try.ntmps6
  go_wp2_with fail
  refine (HA w).mono ?_
  rintro e w0 ⟨rfl, k0⟩
  clear HA
  by_cases x1 : len ≤ 2000
  · have d1 : ¬ (2000 : Int) < (len : Int) := by omega
    by_cases x2 : len2 ≤ 2000
    · have d2 : ¬ (2000 : Int) < (len2 : Int) := by omega
      have hcs := HC (s := ⟨3, 3, 5, b⟩) (hr.moreV k0) (by simp) (by simp)
      go_wp2_with fail
      refine hcs.mono ?_
      rintro e w1 ⟨h1, k1⟩
      rw [if_pos (show cutE ⟨3, 3, 5, b⟩ = 0 by unfold cutE; simp; omega)] at h1
      obtain ⟨la, lc, rfl, R1⟩ := h1
      have hct := HC (s := ⟨3, 3, 6, b2⟩) (hr2.moreV (k0.trans k1)) (by simp) (by simp)
      go_wp2_with fail
      refine hct.mono ?_
      rintro e w2 ⟨h2, k2⟩
      rw [if_pos (show cutE ⟨3, 3, 6, b2⟩ = 0 by unfold cutE; simp; omega)] at h2
      obtain ⟨oa, oc, rfl, R2⟩ := h2
      clear hcs hct HC
      obtain ⟨s, hs⟩ : ∃ s : St, s = ⟨3, 3, 5, b⟩ := ⟨_, rfl⟩
      obtain ⟨t, ht⟩ : ∃ t : St, t = ⟨3, 3, 6, b2⟩ := ⟨_, rfl⟩
      rw [← hs] at R1
      rw [← ht] at R2
      have hb := hr.2.2.2.1
      have hb2 := hr2.2.2.2.1
      have hso : s.Ok := by subst hs; exact ⟨Or.inr rfl, by show b.length ≤ 65536; omega, hb, by simp, by simp⟩
      have hto : t.Ok := by subst ht; exact ⟨Or.inr rfl, by show b2.length ≤ 65536; omega, hb2, by simp, by simp⟩
      have hlt : keyLt s t := by subst hs ht; unfold keyLt; simp
      have z1 := npg_pos s.bytes.length
      have z2 := npg_pos t.bytes.length
      have hm1 : npg s.bytes.length ≤ 63 := by subst hs; show npg b.length ≤ 63; unfold npg; split <;> omega
      have hm2 : npg t.bytes.length ≤ 63 := by subst ht; show npg b2.length ≤ 63; unfold npg; split <;> omega
      have hn1 : (cutL s).length = npg s.bytes.length := cutL_len s
      have hn2 : (cutL t).length = npg t.bytes.length := cutL_len t
      have hg1 := cutL_get s z1
      have hg2 := cutL_get t z2
      obtain ⟨g1, o1, rfl, -⟩ := R1.at hg1
      obtain ⟨g2, o2, rfl, hc2⟩ := R2.at hg2
      rw [← hs, ← ht, hn1, hn2]
      have hR1c := R1.1
      have hR2c := R2.1
      rw [hn1] at hR1c
      rw [hn2] at hR2c
      obtain ⟨n1, en1⟩ : ∃ n1, npg s.bytes.length = n1 := ⟨_, rfl⟩
      obtain ⟨n2, en2⟩ : ∃ n2, npg t.bytes.length = n2 := ⟨_, rfl⟩
      rw [en1] at hn1 hR1c z1 hm1 ⊢
      rw [en2] at hn2 hR2c z2 hm2 ⊢
      have hnN : Hid (npg s.bytes.length = n1) := en1
      clear en1 en2
      have q1 : ((n1 : Int) == 0) = false := by simp; omega
      have q2 : ((n2 : Int) == 0) = false := by simp; omega
      go_wp2_with fail
      refine (wrap_any (n := turn) (s := n1) z1 (by omega) _).mono ?_
      rintro e w3 ⟨k, hk, rfl, ew⟩
      subst w3
      clear q1 q2
      have dw := wrapI (x := (k : Int) + 1) (by omega) (by omega)
      have hs1 : ∀ w', (Instr.sliceAt 23 (.slice (some ⟨g2, o2, none⟩) n2 oc) (some (.int .i64 1)) none none).run Try.prog w' = .ok (.slice (cutP (some ⟨g2, o2, none⟩) oc 1) (n2 - 1) (oc - 1)) w' := fun w' => rest_run w' _ (len := n2) (cap := oc) (t := 1) z2
      have hs2 := fun w' => rest_run w' (some ⟨g1, o1, none⟩) (len := n1) (cap := lc) (t := k) (by omega)
      have hs3 : ∀ w', (Instr.sliceAt 23 (.slice (some ⟨g1, o1, none⟩) n1 lc) none (some (.int .i64 ((k : Int) + 1))) none).run Try.prog w' = .ok (.slice (some ⟨g1, o1, none⟩) (k + 1) lc) w' := fun w' => first_run w' _ (len := n1) (cap := lc) (t := k + 1) (by omega)
      go_upto_region 10 with fail
      refine wp_region_noPanic ?_
      refine wp_region_held_drew (S := fun w' => Keep (fun _ => False) w2 w') (by kernel_rfl) ((Keep.refl _ w2).drew) (fun hH0 => ?_)
      refine' wpAnyH_take (i := 1) (oi := { dst := some 60, op := Op.move (Operand.tmp 11), type := 23, pos := "law.go:152", after := #[], guard := none }) (v := _) rfl (by kernel_rfl) (by kernel_rfl) (by kernel_rfl) (fun _ _ _ h => h) (Or.inl ⟨by rfl, ?hye1⟩) hH0 ?re1
      case hye1 => (intro w' hSw; clear hSw; go_simp; try with_reducible rfl)
      simp only [Act.put, List.setIfInBounds_toArray, List.set_cons_zero, List.set_cons_succ]
      refine' wpAnyH_take (i := 2) (oi := { dst := some 61, op := Op.slice 23 (Operand.tmp 60) (some (Operand.const (Value.int IntKind.i64 1))) none none, type := 23, pos := "law.go:152", after := #[{ on := 1, ground := Ground.data }], guard := none }) (v := .slice (cutP (some ⟨g2, o2, none⟩) oc 1) (n2 - 1) (oc - 1)) rfl (by kernel_rfl) (by kernel_rfl) (by kernel_rfl) (fun _ _ _ h => h) (yields_rest (by rfl) 23 (.tmp 60) _ rfl (by rfl) (by rfl) hs1) hH0 ?re2
      simp only [Act.put, List.setIfInBounds_toArray, List.set_cons_zero, List.set_cons_succ]
      refine' wpAnyH_take (i := 4) (oi := { dst := some 63, op := Op.move (Operand.tmp 9), type := 23, pos := "law.go:152", after := #[], guard := none }) (v := _) rfl (by kernel_rfl) (by kernel_rfl) (by kernel_rfl) (fun _ _ _ h => h) (Or.inl ⟨by rfl, ?hye4⟩) hH0 ?re4
      case hye4 => (intro w' hSw; clear hSw; go_simp; try with_reducible rfl)
      simp only [Act.put, List.setIfInBounds_toArray, List.set_cons_zero, List.set_cons_succ]
      refine' wpAnyH_take (i := 5) (oi := { dst := some 64, op := Op.move (Operand.tmp 13), type := 3, pos := "law.go:152", after := #[], guard := none }) (v := _) rfl (by kernel_rfl) (by kernel_rfl) (by kernel_rfl) (fun _ _ _ h => h) (Or.inl ⟨by rfl, ?hye5⟩) hH0 ?re5
      case hye5 => (intro w' hSw; clear hSw; go_simp; try with_reducible rfl)
      simp only [Act.put, List.setIfInBounds_toArray, List.set_cons_zero, List.set_cons_succ]
      refine' wpAnyH_take (i := 6) (oi := { dst := some 65, op := Op.slice 23 (Operand.tmp 63) (some (Operand.tmp 64)) none none, type := 23, pos := "law.go:152", after := #[{ on := 4, ground := Ground.data }, { on := 5, ground := Ground.data }], guard := none }) (v := .slice (cutP (some ⟨g1, o1, none⟩) lc k) (n1 - k) (lc - k)) rfl (by kernel_rfl) (by kernel_rfl) (by kernel_rfl) (fun _ _ _ h => h) (yields_rest (by rfl) 23 (.tmp 63) (.tmp 64) rfl (by rfl) (by rfl) hs2) hH0 ?re6
      simp only [Act.put, List.setIfInBounds_toArray, List.set_cons_zero, List.set_cons_succ]
      refine' wpAnyH_take (i := 8) (oi := { dst := some 67, op := Op.move (Operand.tmp 9), type := 23, pos := "law.go:152", after := #[], guard := none }) (v := _) rfl (by kernel_rfl) (by kernel_rfl) (by kernel_rfl) (fun _ _ _ h => h) (Or.inl ⟨by rfl, ?hye8⟩) hH0 ?re8
      case hye8 => (intro w' hSw; clear hSw; go_simp; try with_reducible rfl)
      simp only [Act.put, List.setIfInBounds_toArray, List.set_cons_zero, List.set_cons_succ]
      refine' wpAnyH_take (i := 9) (oi := { dst := some 68, op := Op.move (Operand.tmp 13), type := 3, pos := "law.go:152", after := #[], guard := none }) (v := _) rfl (by kernel_rfl) (by kernel_rfl) (by kernel_rfl) (fun _ _ _ h => h) (Or.inl ⟨by rfl, ?hye9⟩) hH0 ?re9
      case hye9 => (intro w' hSw; clear hSw; go_simp; try with_reducible rfl)
      simp only [Act.put, List.setIfInBounds_toArray, List.set_cons_zero, List.set_cons_succ]
      refine' wpAnyH_take (i := 10) (oi := { dst := some 69, op := Op.binOp BinOp.add 3 (Operand.tmp 68) (Operand.const (Value.int IntKind.i64 1)) 3, type := 3, pos := "law.go:152", after := #[{ on := 9, ground := Ground.data }], guard := none }) (v := _) rfl (by kernel_rfl) (by kernel_rfl) (by kernel_rfl) (fun _ _ _ h => h) (Or.inl ⟨by rfl, ?hye10⟩) hH0 ?re10
      case hye10 => (intro w' hSw; clear hSw; go_simp; try with_reducible rfl)
      simp only [Act.put, List.setIfInBounds_toArray, List.set_cons_zero, List.set_cons_succ]
      refine' wpAnyH_take (i := 11) (oi := { dst := some 70, op := Op.slice 23 (Operand.tmp 67) none (some (Operand.tmp 69)) none, type := 23, pos := "law.go:152", after := #[{ on := 8, ground := Ground.data }, { on := 10, ground := Ground.data }], guard := none }) (v := .slice (some ⟨g1, o1, none⟩) (k + 1) lc) rfl (by kernel_rfl) (by kernel_rfl) (by kernel_rfl) (fun _ _ _ h => h) (yields_first (by rfl) 23 (.tmp 67) (.tmp 69) rfl (by rfl) (by rfl) hs3) hH0 ?re11
      simp only [Act.put, List.setIfInBounds_toArray, List.set_cons_zero, List.set_cons_succ]
      refine wpAnyH_ready (rs := [0]) (by kernel_rfl) (by simp) ?_
      refine AllReadyH.cons (o := { dst := some 59, op := Op.buildSlice 23 0 #[], type := 23, pos := "law.go:152", after := #[], guard := none }) rfl (fun K hK => ?_) AllReadyH.nil
      refine step_build0_run (by rfl) 23 rfl (build0_pg _) ?_
      refine hK.out _ _ (((Keep.refl (fun _ => False) w2).drew).alloc _) (fun hH1 => ?_)
      clear hK K hH0
      simp only [Act.put, List.setIfInBounds_toArray, List.set_cons_zero, List.set_cons_succ]
      have E1 := ro_made w2.drew
      obtain ⟨a4, c4, w4, hr4, E2, f4⟩ := E1.appY ((R2.more (((Keep.refl _ _).drew).trans E1.keep)).cut (t := 1) (by omega)) cutP_some (n1 := 0) (n2 := n2 - 1) (n3 := n2 - 1) rfl (by rw [List.length_drop, hn2]) (by omega) (by omega)
      refine wpAnyH_ready (rs := [3]) (by kernel_rfl) (by simp) ?_
      refine AllReadyH.cons (o := { dst := some 62, op := Op.call { callee := Callee.builtin Builtin.append, args := #[Operand.tmp 59, Operand.tmp 61], argTypes := #[23, 23] }, type := 23, pos := "law.go:152", after := #[{ on := 0, ground := Ground.data }, { on := 2, ground := Ground.data }], guard := none }) rfl (fun K hK => ?_) AllReadyH.nil
      refine step_append_run (by rfl) (.tmp 59) (.tmp 61) 23 rfl (by rfl) (by rfl) hr4 ?_
      refine hK.out _ _ (((Keep.refl (fun _ => False) w2).drew).trans E2.keep) (fun hH2 => ?_)
      clear hK K hH1
      simp only [Act.put, List.setIfInBounds_toArray, List.set_cons_zero, List.set_cons_succ]
      obtain ⟨a5, c5, w5, hr5, E3, f5⟩ := E2.appY ((R1.more ((k2.drew).trans E2.keep)).cut (t := k) (by omega)) cutP_some (n2 := n1 - k) (n3 := n2 - 1 + (n1 - k)) f4 (by rw [List.length_drop, hn1]) rfl (by omega)
      refine wpAnyH_ready (rs := [7]) (by kernel_rfl) (by simp) ?_
      refine AllReadyH.cons (o := { dst := some 66, op := Op.call { callee := Callee.builtin Builtin.append, args := #[Operand.tmp 62, Operand.tmp 65], argTypes := #[23, 23] }, type := 23, pos := "law.go:152", after := #[{ on := 3, ground := Ground.data }, { on := 6, ground := Ground.data }, { on := 3, ground := Ground.chain }], guard := none }) rfl (fun K hK => ?_) AllReadyH.nil
      refine step_append_run (by rfl) (.tmp 62) (.tmp 65) 23 rfl (by rfl) (by rfl) hr5 ?_
      refine hK.out _ _ (((Keep.refl (fun _ => False) w2).drew).trans E3.keep) (fun hH3 => ?_)
      clear hK K hH2
      simp only [Act.put, List.setIfInBounds_toArray, List.set_cons_zero, List.set_cons_succ]
      obtain ⟨a6, c6, w6, hr6, E4, f6⟩ := E3.appY ((R1.more ((k2.drew).trans E3.keep)).first (k + 1)) (by simp) (n2 := k + 1) (n3 := n1 + n2) f5 (by rw [List.length_take, hn1]; omega) (by omega) (by omega)
      refine wpAnyH_ready (rs := [12]) (by kernel_rfl) (by simp) ?_
      refine AllReadyH.cons (o := { dst := some 71, op := Op.call { callee := Callee.builtin Builtin.append, args := #[Operand.tmp 66, Operand.tmp 70], argTypes := #[23, 23] }, type := 23, pos := "law.go:152", after := #[{ on := 7, ground := Ground.data }, { on := 11, ground := Ground.data }, { on := 7, ground := Ground.chain }], guard := none }) rfl (fun K hK => ?_) AllReadyH.nil
      refine step_append_run (by rfl) (.tmp 66) (.tmp 70) 23 rfl (by rfl) (by rfl) hr6 ?_
      refine hK.out _ _ (((Keep.refl (fun _ => False) w2).drew).trans E4.keep) (fun hH4 => ?_)
      clear hK K hH3
      simp only [Act.put, List.setIfInBounds_toArray, List.set_cons_zero, List.set_cons_succ]
      refine' wpAnyH_take (i := 13) (oi := { dst := some 14, op := Op.assign (Operand.tmp 71), type := 23, pos := "law.go:152", after := #[{ on := 12, ground := Ground.data }, { on := 12, ground := Ground.chain }, { on := 0, ground := Ground.phase }, { on := 1, ground := Ground.phase }, { on := 2, ground := Ground.phase }, { on := 3, ground := Ground.phase }, { on := 4, ground := Ground.phase }, { on := 5, ground := Ground.phase }, { on := 6, ground := Ground.phase }, { on := 7, ground := Ground.phase }, { on := 8, ground := Ground.phase }, { on := 9, ground := Ground.phase }, { on := 10, ground := Ground.phase }, { on := 11, ground := Ground.phase }, { on := 12, ground := Ground.phase }], guard := none }) (v := _) rfl (by kernel_rfl) (by kernel_rfl) (by kernel_rfl) (fun _ _ _ h => h) (Or.inl ⟨by rfl, ?hye13⟩) hH4 ?re13
      case hye13 => (intro w' hSw; clear hSw; go_simp; try with_reducible rfl)
      simp only [Act.put, List.setIfInBounds_toArray, List.set_cons_zero, List.set_cons_succ]
      refine wpAnyH_done (by kernel_rfl) ?_ _
      refine NoPanic.normal ?_
      have hw6 : Keep (fun _ => False) w2 w6 := ((Keep.refl _ w2).drew).trans E4.keep
      have G4 : Ro w2 w6 a6 c6 _ := E4.older ((Keep.refl _ w2).drew)
      clear hs1 hs2 hs3 hr4 hr5 hr6 E1 E2 E3 E4 f4 f5
      obtain ⟨a7, c7, w7, hr7, G7, -, -⟩ := G4.app1 (by rw [f6]; omega) (pgS t 0)
      rw [f6] at hr7
      have hR26 := R2.more hw6
      obtain ⟨g', o', eq', hc6⟩ := hR26.at hg2
      injection eq' with eq'
      injection eq' with e1 e2
      subst e1 e2
      have hld := pg_load hc6
      have hbd := build_pg (pgS t 0) w6
      have f7 : ([] ++ (cutL t).drop 1 ++ (cutL s).drop k ++ (cutL s).take (k + 1) ++ [pgS t 0]).length = n1 + n2 + 1 := by rw [List.length_append, f6]; rfl
      have hmem : ∀ p, p ∈ [] ++ (cutL t).drop 1 ++ (cutL s).drop k ++ (cutL s).take (k + 1) ++ [pgS t 0] ↔ p ∈ cutL s ∨ p ∈ cutL t := fun p => by
        simp only [List.mem_append, List.mem_singleton, List.nil_append]
        rw [← mem_turn (l := cutL s) (k := k) (x := p), ← mem_first (x := p) hg2]
        constructor
        · rintro (((h | h) | h) | h)
          · exact Or.inr (Or.inl h)
          · exact Or.inl (Or.inl h)
          · exact Or.inl (Or.inr h)
          · exact Or.inr (Or.inr h)
        · rintro ((h | h) | (h | h))
          · exact Or.inl (Or.inl (Or.inr h))
          · exact Or.inl (Or.inr h)
          · exact Or.inl (Or.inl (Or.inl h))
          · exact Or.inr h
      have hj := HJ G7.rg (fun q hq => ((hmem q).1 hq).elim (cutL_ok hso q) (cutL_ok hto q)) (by rw [f7]; omega)
      rw [f7] at hj
      go_wp2_with (first | (guard_target =~ wpList _ _ _ (Oper.mk _ (Op.load 33 _) _ _ _ _ :: _) _ _; refine wpList_load_run (by rfl) 33 (.tmp 74) rfl (by rfl) hld ?_) | (guard_target =~ wpList _ _ _ (Oper.mk _ (Op.buildSlice _ _ _) _ _ _ _ :: _) _ _; refine wpList_build_run (by rfl) 23 1 (.tmp 75) rfl (by rfl) hbd ?_) | (at_builtin; refine wpList_append_run rfl (.tmp 72) (.tmp 76) 23 rfl (by rfl) (by rfl) hr7 ?_))
      refine hj.mono ?_
      rintro e w8 ⟨a8, c8, rs, L, rfl, Q8, hsy, hjs, k8⟩
      have K82 : Keep (fun _ => False) w2 w8 := G7.keep.trans k8
      have K8 : Keep (fun _ => False) w1 w8 := k2.trans K82
      have K80 : Keep (fun _ => False) w0 w8 := k1.trans K8
      obtain rfl : L = [s, t] := join_one hjs (join_two hso hto hlt hmem)
      obtain ⟨r1, r2, rfl⟩ : ∃ r1 r2, rs = [r1, r2] := by
        have := hsy.1
        match rs, this with
        | [r1, r2], _ => exact ⟨r1, r2, rfl⟩
      obtain ⟨-, -, e13, hrw1⟩ := hsy.2 0 r1 s rfl rfl
      obtain ⟨-, -, -, hrw2⟩ := hsy.2 1 r2 t rfl rfl
      rw [hs] at e13 hrw1
      rw [ht] at hrw2
      obtain ⟨g8, o8, ha8, hc8⟩ := Q8.at (i := 0) (r := r1) rfl
      obtain ⟨g8', o8', ha8', hc8'⟩ := Q8.at (i := 1) (r := r2) rfl
      subst ha8
      injection ha8' with ha8'
      injection ha8' with e1 e2
      subst e1 e2
      have c82 : w8.cell? ⟨g8, o8 + 2, none⟩ = some (.int .u32 5) := by have := hc8 2 (by omega); simpa [rwc, e13] using this
      have c83 : w8.cell? ⟨g8, o8 + 3, none⟩ = some (.slice r1.a r1.len r1.cap) := by have := hc8 3 (by omega); simpa [rwc] using this
      have c87 : w8.cell? ⟨g8, o8 + 4 + 3, none⟩ = some (.slice r2.a r2.len r2.cap) := by have := hc8' 3 (by omega); simpa [rwc] using this
      have hc81 : (2 : Nat) ≤ c8 := Q8.1
      have hc82 := Q8.2.1
      have t1 := hrw1.text
      have t2 := hrw2.text
      have t3 := ((hr.moreV k0).moreV K80).text
      have t4 := ((hr2.moreV k0).moreV K80).text
      have e5 : ((strOfNums b).toList != (strOfNums b).toList) = false := by simp
      have e6 : ((strOfNums b2).toList != (strOfNums b2).toList) = false := by simp
      clear hj hjs hsy Q8 hc8 hc8' e13 hld hbd hr7 G4 G7 hR26 hc6 hmem f6 f7
      simp only [List.length_cons, List.length_nil, Nat.zero_add, Nat.reduceAdd]
      go_upto_region 12 with fail
      have hdr : Keep (fun _ => False) w8 w8.drew := (Keep.refl _ w8).drew
      have t1' := (hrw1.moreV hdr).text
      have t2' := (hrw2.moreV hdr).text
      have t3' := (((hr.moreV k0).moreV K80).moreV hdr).text
      have t4' := (((hr2.moreV k0).moreV K80).moreV hdr).text
      refine wp_region_noPanic ?_
      refine wp_region_held_drew (S := fun w' => w' = w8.drew) (by kernel_rfl) (rfl) (fun hH0 => ?_)
      refine' wpAnyH_take (i := 0) (oi := { dst := some 79, op := Op.move (Operand.tmp 15), type := 37, pos := "law.go:154", after := #[], guard := none }) (v := _) rfl (by kernel_rfl) (by kernel_rfl) (by kernel_rfl) (fun _ _ _ h => h) (Or.inl ⟨by rfl, ?hyf0⟩) hH0 ?rf0
      case hyf0 => (intro w' hSw; subst hSw; go_simp; try with_reducible rfl)
      simp only [Act.put, List.setIfInBounds_toArray, List.set_cons_zero, List.set_cons_succ]
      refine' wpAnyH_take (i := 1) (oi := { dst := some 80, op := Op.call { callee := Callee.builtin Builtin.len, args := #[Operand.tmp 79], argTypes := #[37] }, type := 3, pos := "law.go:154", after := #[{ on := 0, ground := Ground.data }], guard := none }) (v := _) rfl (by kernel_rfl) (by kernel_rfl) (by kernel_rfl) (fun _ _ _ h => h) (Or.inl ⟨by rfl, ?hyf1⟩) hH0 ?rf1
      case hyf1 => (intro w' hSw; subst hSw; go_simp; try with_reducible rfl)
      simp only [Act.put, List.setIfInBounds_toArray, List.set_cons_zero, List.set_cons_succ]
      refine' wpAnyH_take (i := 2) (oi := { dst := some 81, op := Op.binOp BinOp.neq 3 (Operand.tmp 80) (Operand.const (Value.int IntKind.i64 2)) 3, type := 4, pos := "law.go:154", after := #[{ on := 1, ground := Ground.data }], guard := none }) (v := .bool false) rfl (by kernel_rfl) (by kernel_rfl) (by kernel_rfl) (fun _ _ _ h => h) (Or.inl ⟨by rfl, ?hyf2⟩) hH0 ?rf2
      case hyf2 => (intro w' hSw; subst hSw; go_simp; try with_reducible rfl)
      simp only [Act.put, List.setIfInBounds_toArray, List.set_cons_zero, List.set_cons_succ]
      refine' wpAnyH_take (i := 3) (oi := { dst := some 82, op := Op.move (Operand.tmp 81), type := 4, pos := "law.go:154", after := #[{ on := 2, ground := Ground.data }], guard := none }) (v := _) rfl (by kernel_rfl) (by kernel_rfl) (by kernel_rfl) (fun _ _ _ h => h) (Or.inl ⟨by rfl, ?hyf3⟩) hH0 ?rf3
      case hyf3 => (intro w' hSw; subst hSw; go_simp; try with_reducible rfl)
      simp only [Act.put, List.setIfInBounds_toArray, List.set_cons_zero, List.set_cons_succ]
      refine' wpAnyH_take (i := 4) (oi := { dst := some 83, op := Op.move (Operand.tmp 15), type := 37, pos := "law.go:154", after := #[{ on := 3, ground := Ground.guard }], guard := some (3, false) }) (v := _) rfl (by kernel_rfl) (by kernel_rfl) (by kernel_rfl) (fun _ _ _ h => h) (Or.inl ⟨by rfl, ?hyf4⟩) hH0 ?rf4
      case hyf4 => (intro w' hSw; subst hSw; go_simp; try with_reducible rfl)
      simp only [Act.put, List.setIfInBounds_toArray, List.set_cons_zero, List.set_cons_succ]
      refine' wpAnyH_take (i := 5) (oi := { dst := some 84, op := Op.indexAddr 37 (Operand.tmp 83) (Operand.const (Value.int IntKind.i64 0)), type := 0, pos := "law.go:154", after := #[{ on := 4, ground := Ground.data }, { on := 3, ground := Ground.guard }], guard := some (3, false) }) (v := _) rfl (by kernel_rfl) (by kernel_rfl) (by kernel_rfl) (fun _ _ _ h => h) (Or.inl ⟨by rfl, ?hyf5⟩) hH0 ?rf5
      case hyf5 => (intro w' hSw; subst hSw; go_simp; try with_reducible rfl)
      simp only [Act.put, List.setIfInBounds_toArray, List.set_cons_zero, List.set_cons_succ]
      refine' wpAnyH_take (i := 6) (oi := { dst := some 85, op := Op.fieldAddr 30 (Operand.tmp 84) 2, type := 0, pos := "law.go:154", after := #[{ on := 5, ground := Ground.data }, { on := 3, ground := Ground.guard }], guard := some (3, false) }) (v := _) rfl (by kernel_rfl) (by kernel_rfl) (by kernel_rfl) (fun _ _ _ h => h) (Or.inl ⟨by rfl, ?hyf6⟩) hH0 ?rf6
      case hyf6 => (intro w' hSw; subst hSw; go_simp; try with_reducible rfl)
      simp only [Act.put, List.setIfInBounds_toArray, List.set_cons_zero, List.set_cons_succ]
      refine' wpAnyH_take (i := 7) (oi := { dst := some 86, op := Op.load 27 (Operand.tmp 85), type := 27, pos := "law.go:154", after := #[{ on := 6, ground := Ground.data }, { on := 3, ground := Ground.guard }], guard := some (3, false) }) (v := _) rfl (by kernel_rfl) (by kernel_rfl) (by kernel_rfl) (fun _ _ _ h => h) (Or.inl ⟨by rfl, ?hyf7⟩) hH0 ?rf7
      case hyf7 => (intro w' hSw; subst hSw; go_simp; try with_reducible rfl)
      simp only [Act.put, List.setIfInBounds_toArray, List.set_cons_zero, List.set_cons_succ]
      refine' wpAnyH_take (i := 8) (oi := { dst := some 87, op := Op.binOp BinOp.neq 27 (Operand.tmp 86) (Operand.const (Value.int IntKind.u32 5)) 27, type := 4, pos := "law.go:154", after := #[{ on := 7, ground := Ground.data }, { on := 3, ground := Ground.guard }], guard := some (3, false) }) (v := .bool false) rfl (by kernel_rfl) (by kernel_rfl) (by kernel_rfl) (fun _ _ _ h => h) (Or.inl ⟨by rfl, ?hyf8⟩) hH0 ?rf8
      case hyf8 => (intro w' hSw; subst hSw; go_simp; try with_reducible rfl)
      simp only [Act.put, List.setIfInBounds_toArray, List.set_cons_zero, List.set_cons_succ]
      refine' wpAnyH_take (i := 9) (oi := { dst := some 88, op := Op.pick (Operand.tmp 82) (Operand.const (Value.bool true)) (Operand.tmp 87), type := 4, pos := "law.go:154", after := #[{ on := 3, ground := Ground.data }, { on := 8, ground := Ground.data }], guard := none }) (v := .bool false) rfl (by kernel_rfl) (by kernel_rfl) (by kernel_rfl) (fun _ _ _ h => h) (Or.inl ⟨by rfl, ?hyf9⟩) hH0 ?rf9
      case hyf9 => (intro w' hSw; subst hSw; go_simp; try with_reducible rfl)
      simp only [Act.put, List.setIfInBounds_toArray, List.set_cons_zero, List.set_cons_succ]
      refine' wpAnyH_take (i := 10) (oi := { dst := some 89, op := Op.move (Operand.tmp 88), type := 4, pos := "law.go:154", after := #[{ on := 9, ground := Ground.data }, { on := 3, ground := Ground.chain }], guard := none }) (v := _) rfl (by kernel_rfl) (by kernel_rfl) (by kernel_rfl) (fun _ _ _ h => h) (Or.inl ⟨by rfl, ?hyf10⟩) hH0 ?rf10
      case hyf10 => (intro w' hSw; subst hSw; go_simp; try with_reducible rfl)
      simp only [Act.put, List.setIfInBounds_toArray, List.set_cons_zero, List.set_cons_succ]
      refine' wpAnyH_take (i := 11) (oi := { dst := some 90, op := Op.move (Operand.tmp 15), type := 37, pos := "law.go:154", after := #[{ on := 10, ground := Ground.guard }], guard := some (10, false) }) (v := _) rfl (by kernel_rfl) (by kernel_rfl) (by kernel_rfl) (fun _ _ _ h => h) (Or.inl ⟨by rfl, ?hyf11⟩) hH0 ?rf11
      case hyf11 => (intro w' hSw; subst hSw; go_simp; try with_reducible rfl)
      simp only [Act.put, List.setIfInBounds_toArray, List.set_cons_zero, List.set_cons_succ]
      refine' wpAnyH_take (i := 12) (oi := { dst := some 91, op := Op.indexAddr 37 (Operand.tmp 90) (Operand.const (Value.int IntKind.i64 0)), type := 0, pos := "law.go:154", after := #[{ on := 11, ground := Ground.data }, { on := 10, ground := Ground.guard }], guard := some (10, false) }) (v := _) rfl (by kernel_rfl) (by kernel_rfl) (by kernel_rfl) (fun _ _ _ h => h) (Or.inl ⟨by rfl, ?hyf12⟩) hH0 ?rf12
      case hyf12 => (intro w' hSw; subst hSw; go_simp; try with_reducible rfl)
      simp only [Act.put, List.setIfInBounds_toArray, List.set_cons_zero, List.set_cons_succ]
      refine' wpAnyH_take (i := 13) (oi := { dst := some 92, op := Op.fieldAddr 30 (Operand.tmp 91) 3, type := 0, pos := "law.go:154", after := #[{ on := 12, ground := Ground.data }, { on := 10, ground := Ground.guard }], guard := some (10, false) }) (v := _) rfl (by kernel_rfl) (by kernel_rfl) (by kernel_rfl) (fun _ _ _ h => h) (Or.inl ⟨by rfl, ?hyf13⟩) hH0 ?rf13
      case hyf13 => (intro w' hSw; subst hSw; go_simp; try with_reducible rfl)
      simp only [Act.put, List.setIfInBounds_toArray, List.set_cons_zero, List.set_cons_succ]
      refine' wpAnyH_take (i := 14) (oi := { dst := some 93, op := Op.load 28 (Operand.tmp 92), type := 28, pos := "law.go:154", after := #[{ on := 13, ground := Ground.data }, { on := 10, ground := Ground.guard }], guard := some (10, false) }) (v := .slice r1.a r1.len r1.cap) rfl (by kernel_rfl) (by kernel_rfl) (by kernel_rfl) (fun _ _ _ h => h) (Or.inl ⟨by rfl, ?hyf14⟩) hH0 ?rf14
      case hyf14 => (intro w' hSw; subst hSw; go_simp; try with_reducible rfl)
      simp only [Act.put, List.setIfInBounds_toArray, List.set_cons_zero, List.set_cons_succ]
      refine' wpAnyH_take (i := 15) (oi := { dst := some 94, op := Op.convert 28 9 (Operand.tmp 93), type := 9, pos := "law.go:154", after := #[{ on := 14, ground := Ground.data }, { on := 10, ground := Ground.guard }], guard := some (10, false) }) (v := .string (strOfNums b)) rfl (by kernel_rfl) (by kernel_rfl) (by kernel_rfl) (fun _ _ _ h => h) (Or.inl ⟨by rfl, ?hyf15⟩) hH0 ?rf15
      case hyf15 => (intro w' hSw; subst hSw; go_simp; try with_reducible rfl)
      simp only [Act.put, List.setIfInBounds_toArray, List.set_cons_zero, List.set_cons_succ]
      refine' wpAnyH_take (i := 16) (oi := { dst := some 95, op := Op.move (Operand.tmp 0), type := 28, pos := "law.go:154", after := #[{ on := 10, ground := Ground.guard }], guard := some (10, false) }) (v := _) rfl (by kernel_rfl) (by kernel_rfl) (by kernel_rfl) (fun _ _ _ h => h) (Or.inl ⟨by rfl, ?hyf16⟩) hH0 ?rf16
      case hyf16 => (intro w' hSw; subst hSw; go_simp; try with_reducible rfl)
      simp only [Act.put, List.setIfInBounds_toArray, List.set_cons_zero, List.set_cons_succ]
      refine' wpAnyH_take (i := 17) (oi := { dst := some 96, op := Op.convert 28 9 (Operand.tmp 95), type := 9, pos := "law.go:154", after := #[{ on := 16, ground := Ground.data }, { on := 10, ground := Ground.guard }], guard := some (10, false) }) (v := .string (strOfNums b)) rfl (by kernel_rfl) (by kernel_rfl) (by kernel_rfl) (fun _ _ _ h => h) (Or.inl ⟨by rfl, ?hyf17⟩) hH0 ?rf17
      case hyf17 => (intro w' hSw; subst hSw; go_simp; try with_reducible rfl)
      simp only [Act.put, List.setIfInBounds_toArray, List.set_cons_zero, List.set_cons_succ]
      refine' wpAnyH_take (i := 18) (oi := { dst := some 97, op := Op.binOp BinOp.neq 9 (Operand.tmp 94) (Operand.tmp 96) 9, type := 4, pos := "law.go:154", after := #[{ on := 15, ground := Ground.data }, { on := 17, ground := Ground.data }, { on := 10, ground := Ground.guard }], guard := some (10, false) }) (v := .bool false) rfl (by kernel_rfl) (by kernel_rfl) (by kernel_rfl) (fun _ _ _ h => h) (Or.inl ⟨by rfl, ?hyf18⟩) hH0 ?rf18
      case hyf18 => (intro w' hSw; subst hSw; go_simp; try with_reducible rfl)
      simp only [Act.put, List.setIfInBounds_toArray, List.set_cons_zero, List.set_cons_succ]
      refine' wpAnyH_take (i := 19) (oi := { dst := some 98, op := Op.pick (Operand.tmp 89) (Operand.const (Value.bool true)) (Operand.tmp 97), type := 4, pos := "law.go:154", after := #[{ on := 10, ground := Ground.data }, { on := 18, ground := Ground.data }], guard := none }) (v := .bool false) rfl (by kernel_rfl) (by kernel_rfl) (by kernel_rfl) (fun _ _ _ h => h) (Or.inl ⟨by rfl, ?hyf19⟩) hH0 ?rf19
      case hyf19 => (intro w' hSw; subst hSw; go_simp; try with_reducible rfl)
      simp only [Act.put, List.setIfInBounds_toArray, List.set_cons_zero, List.set_cons_succ]
      refine' wpAnyH_take (i := 20) (oi := { dst := some 99, op := Op.move (Operand.tmp 98), type := 4, pos := "law.go:154", after := #[{ on := 19, ground := Ground.data }, { on := 10, ground := Ground.chain }], guard := none }) (v := _) rfl (by kernel_rfl) (by kernel_rfl) (by kernel_rfl) (fun _ _ _ h => h) (Or.inl ⟨by rfl, ?hyf20⟩) hH0 ?rf20
      case hyf20 => (intro w' hSw; subst hSw; go_simp; try with_reducible rfl)
      simp only [Act.put, List.setIfInBounds_toArray, List.set_cons_zero, List.set_cons_succ]
      refine' wpAnyH_take (i := 21) (oi := { dst := some 100, op := Op.move (Operand.tmp 15), type := 37, pos := "law.go:154", after := #[{ on := 20, ground := Ground.guard }], guard := some (20, false) }) (v := _) rfl (by kernel_rfl) (by kernel_rfl) (by kernel_rfl) (fun _ _ _ h => h) (Or.inl ⟨by rfl, ?hyf21⟩) hH0 ?rf21
      case hyf21 => (intro w' hSw; subst hSw; go_simp; try with_reducible rfl)
      simp only [Act.put, List.setIfInBounds_toArray, List.set_cons_zero, List.set_cons_succ]
      refine' wpAnyH_take (i := 22) (oi := { dst := some 101, op := Op.indexAddr 37 (Operand.tmp 100) (Operand.const (Value.int IntKind.i64 1)), type := 0, pos := "law.go:154", after := #[{ on := 21, ground := Ground.data }, { on := 20, ground := Ground.guard }], guard := some (20, false) }) (v := _) rfl (by kernel_rfl) (by kernel_rfl) (by kernel_rfl) (fun _ _ _ h => h) (Or.inl ⟨by rfl, ?hyf22⟩) hH0 ?rf22
      case hyf22 => (intro w' hSw; subst hSw; go_simp; try with_reducible rfl)
      simp only [Act.put, List.setIfInBounds_toArray, List.set_cons_zero, List.set_cons_succ]
      refine' wpAnyH_take (i := 23) (oi := { dst := some 102, op := Op.fieldAddr 30 (Operand.tmp 101) 3, type := 0, pos := "law.go:154", after := #[{ on := 22, ground := Ground.data }, { on := 20, ground := Ground.guard }], guard := some (20, false) }) (v := _) rfl (by kernel_rfl) (by kernel_rfl) (by kernel_rfl) (fun _ _ _ h => h) (Or.inl ⟨by rfl, ?hyf23⟩) hH0 ?rf23
      case hyf23 => (intro w' hSw; subst hSw; go_simp; try with_reducible rfl)
      simp only [Act.put, List.setIfInBounds_toArray, List.set_cons_zero, List.set_cons_succ]
      refine' wpAnyH_take (i := 24) (oi := { dst := some 103, op := Op.load 28 (Operand.tmp 102), type := 28, pos := "law.go:154", after := #[{ on := 23, ground := Ground.data }, { on := 20, ground := Ground.guard }], guard := some (20, false) }) (v := .slice r2.a r2.len r2.cap) rfl (by kernel_rfl) (by kernel_rfl) (by kernel_rfl) (fun _ _ _ h => h) (Or.inl ⟨by rfl, ?hyf24⟩) hH0 ?rf24
      case hyf24 => (intro w' hSw; subst hSw; go_simp; try with_reducible rfl)
      simp only [Act.put, List.setIfInBounds_toArray, List.set_cons_zero, List.set_cons_succ]
      refine' wpAnyH_take (i := 25) (oi := { dst := some 104, op := Op.convert 28 9 (Operand.tmp 103), type := 9, pos := "law.go:154", after := #[{ on := 24, ground := Ground.data }, { on := 20, ground := Ground.guard }], guard := some (20, false) }) (v := .string (strOfNums b2)) rfl (by kernel_rfl) (by kernel_rfl) (by kernel_rfl) (fun _ _ _ h => h) (Or.inl ⟨by rfl, ?hyf25⟩) hH0 ?rf25
      case hyf25 => (intro w' hSw; subst hSw; go_simp; try with_reducible rfl)
      simp only [Act.put, List.setIfInBounds_toArray, List.set_cons_zero, List.set_cons_succ]
      refine' wpAnyH_take (i := 26) (oi := { dst := some 105, op := Op.move (Operand.tmp 3), type := 28, pos := "law.go:154", after := #[{ on := 20, ground := Ground.guard }], guard := some (20, false) }) (v := _) rfl (by kernel_rfl) (by kernel_rfl) (by kernel_rfl) (fun _ _ _ h => h) (Or.inl ⟨by rfl, ?hyf26⟩) hH0 ?rf26
      case hyf26 => (intro w' hSw; subst hSw; go_simp; try with_reducible rfl)
      simp only [Act.put, List.setIfInBounds_toArray, List.set_cons_zero, List.set_cons_succ]
      refine' wpAnyH_take (i := 27) (oi := { dst := some 106, op := Op.convert 28 9 (Operand.tmp 105), type := 9, pos := "law.go:154", after := #[{ on := 26, ground := Ground.data }, { on := 20, ground := Ground.guard }], guard := some (20, false) }) (v := .string (strOfNums b2)) rfl (by kernel_rfl) (by kernel_rfl) (by kernel_rfl) (fun _ _ _ h => h) (Or.inl ⟨by rfl, ?hyf27⟩) hH0 ?rf27
      case hyf27 => (intro w' hSw; subst hSw; go_simp; try with_reducible rfl)
      simp only [Act.put, List.setIfInBounds_toArray, List.set_cons_zero, List.set_cons_succ]
      refine' wpAnyH_take (i := 28) (oi := { dst := some 107, op := Op.binOp BinOp.neq 9 (Operand.tmp 104) (Operand.tmp 106) 9, type := 4, pos := "law.go:154", after := #[{ on := 25, ground := Ground.data }, { on := 27, ground := Ground.data }, { on := 20, ground := Ground.guard }], guard := some (20, false) }) (v := .bool false) rfl (by kernel_rfl) (by kernel_rfl) (by kernel_rfl) (fun _ _ _ h => h) (Or.inl ⟨by rfl, ?hyf28⟩) hH0 ?rf28
      case hyf28 => (intro w' hSw; subst hSw; go_simp; try with_reducible rfl)
      simp only [Act.put, List.setIfInBounds_toArray, List.set_cons_zero, List.set_cons_succ]
      refine' wpAnyH_take (i := 29) (oi := { dst := some 108, op := Op.pick (Operand.tmp 99) (Operand.const (Value.bool true)) (Operand.tmp 107), type := 4, pos := "law.go:154", after := #[{ on := 20, ground := Ground.data }, { on := 28, ground := Ground.data }], guard := none }) (v := .bool false) rfl (by kernel_rfl) (by kernel_rfl) (by kernel_rfl) (fun _ _ _ h => h) (Or.inl ⟨by rfl, ?hyf29⟩) hH0 ?rf29
      case hyf29 => (intro w' hSw; subst hSw; go_simp; try with_reducible rfl)
      simp only [Act.put, List.setIfInBounds_toArray, List.set_cons_zero, List.set_cons_succ]
      refine wpAnyH_done (by kernel_rfl) ?_ _
      refine NoPanic.normal ?_
      have J8 := K8.trans hdr
      have J82 := K82.trans hdr
      have J80 := K80.trans hdr
      clear t1 t2 t3 t4 t1' t2' t3' t4' c82 c83 c87 hc81 hc82 hrw1 hrw2 e5 e6 hH0 hH4 hw6 k8 K8 K82 K80 hdr dw hc2
      generalize w8.drew = v8 at J8 J82 J80
      go_wp2_with fail
      refine (wrap_any (n := less) (s := n1) z1 (by omega) _).mono ?_
      rintro e w9 ⟨d, hd, rfl, ew⟩
      subst w9
      have dw := wrapI (x := (d : Int) + 1) (by omega) (by omega)
      have hs4 := fun w' => first_run w' (some ⟨g1, o1, none⟩) (len := n1) (cap := lc) (t := d) (by omega)
      have hs5 : ∀ w', (Instr.sliceAt 23 (.slice (some ⟨g1, o1, none⟩) n1 lc) (some (.int .i64 ((d : Int) + 1))) none none).run Try.prog w' = .ok (.slice (cutP (some ⟨g1, o1, none⟩) lc (d + 1)) (n1 - (d + 1)) (lc - (d + 1))) w' := fun w' => rest_run w' _ (len := n1) (cap := lc) (t := d + 1) (by omega)
      have hmem2 : ∀ p, p ∈ [] ++ (cutL s).take d ++ (cutL s).drop (d + 1) ++ cutL t ↔ (p ∈ cutL s ∧ p ≠ pgS s d) ∨ p ∈ cutL t := fun p => by
        rw [List.mem_append, List.nil_append, List.mem_append, mem_less]
      have hq2 : ∀ q ∈ [] ++ (cutL s).take d ++ (cutL s).drop (d + 1) ++ cutL t, q.Ok := fun q hq => ((hmem2 q).1 hq).elim (fun h => cutL_ok hso q h.1) (cutL_ok hto q)
      go_upto_region 15 with fail
      refine wp_region_noPanic ?_
      refine wp_region_held_drew (S := fun w' => Keep (fun _ => False) v8 w') (by kernel_rfl) ((Keep.refl _ v8).drew) (fun hH0 => ?_)
      refine' wpAnyH_take (i := 1) (oi := { dst := some 114, op := Op.move (Operand.tmp 9), type := 23, pos := "law.go:158", after := #[], guard := none }) (v := _) rfl (by kernel_rfl) (by kernel_rfl) (by kernel_rfl) (fun _ _ _ h => h) (Or.inl ⟨by rfl, ?hyh1⟩) hH0 ?rh1
      case hyh1 => (intro w' hSw; clear hSw; go_simp; try with_reducible rfl)
      simp only [Act.put, List.setIfInBounds_toArray, List.set_cons_zero, List.set_cons_succ]
      refine' wpAnyH_take (i := 2) (oi := { dst := some 115, op := Op.move (Operand.tmp 16), type := 3, pos := "law.go:158", after := #[], guard := none }) (v := _) rfl (by kernel_rfl) (by kernel_rfl) (by kernel_rfl) (fun _ _ _ h => h) (Or.inl ⟨by rfl, ?hyh2⟩) hH0 ?rh2
      case hyh2 => (intro w' hSw; clear hSw; go_simp; try with_reducible rfl)
      simp only [Act.put, List.setIfInBounds_toArray, List.set_cons_zero, List.set_cons_succ]
      refine' wpAnyH_take (i := 3) (oi := { dst := some 116, op := Op.slice 23 (Operand.tmp 114) none (some (Operand.tmp 115)) none, type := 23, pos := "law.go:158", after := #[{ on := 1, ground := Ground.data }, { on := 2, ground := Ground.data }], guard := none }) (v := .slice (some ⟨g1, o1, none⟩) d lc) rfl (by kernel_rfl) (by kernel_rfl) (by kernel_rfl) (fun _ _ _ h => h) (yields_first (by rfl) 23 (.tmp 114) (.tmp 115) rfl (by rfl) (by rfl) hs4) hH0 ?rh3
      simp only [Act.put, List.setIfInBounds_toArray, List.set_cons_zero, List.set_cons_succ]
      refine' wpAnyH_take (i := 5) (oi := { dst := some 118, op := Op.move (Operand.tmp 9), type := 23, pos := "law.go:158", after := #[], guard := none }) (v := _) rfl (by kernel_rfl) (by kernel_rfl) (by kernel_rfl) (fun _ _ _ h => h) (Or.inl ⟨by rfl, ?hyh5⟩) hH0 ?rh5
      case hyh5 => (intro w' hSw; clear hSw; go_simp; try with_reducible rfl)
      simp only [Act.put, List.setIfInBounds_toArray, List.set_cons_zero, List.set_cons_succ]
      refine' wpAnyH_take (i := 6) (oi := { dst := some 119, op := Op.move (Operand.tmp 16), type := 3, pos := "law.go:158", after := #[], guard := none }) (v := _) rfl (by kernel_rfl) (by kernel_rfl) (by kernel_rfl) (fun _ _ _ h => h) (Or.inl ⟨by rfl, ?hyh6⟩) hH0 ?rh6
      case hyh6 => (intro w' hSw; clear hSw; go_simp; try with_reducible rfl)
      simp only [Act.put, List.setIfInBounds_toArray, List.set_cons_zero, List.set_cons_succ]
      refine' wpAnyH_take (i := 7) (oi := { dst := some 120, op := Op.binOp BinOp.add 3 (Operand.tmp 119) (Operand.const (Value.int IntKind.i64 1)) 3, type := 3, pos := "law.go:158", after := #[{ on := 6, ground := Ground.data }], guard := none }) (v := _) rfl (by kernel_rfl) (by kernel_rfl) (by kernel_rfl) (fun _ _ _ h => h) (Or.inl ⟨by rfl, ?hyh7⟩) hH0 ?rh7
      case hyh7 => (intro w' hSw; clear hSw; go_simp; try with_reducible rfl)
      simp only [Act.put, List.setIfInBounds_toArray, List.set_cons_zero, List.set_cons_succ]
      refine' wpAnyH_take (i := 8) (oi := { dst := some 121, op := Op.slice 23 (Operand.tmp 118) (some (Operand.tmp 120)) none none, type := 23, pos := "law.go:158", after := #[{ on := 5, ground := Ground.data }, { on := 7, ground := Ground.data }], guard := none }) (v := .slice (cutP (some ⟨g1, o1, none⟩) lc (d + 1)) (n1 - (d + 1)) (lc - (d + 1))) rfl (by kernel_rfl) (by kernel_rfl) (by kernel_rfl) (fun _ _ _ h => h) (yields_rest (by rfl) 23 (.tmp 118) (.tmp 120) rfl (by rfl) (by rfl) hs5) hH0 ?rh8
      simp only [Act.put, List.setIfInBounds_toArray, List.set_cons_zero, List.set_cons_succ]
      refine' wpAnyH_take (i := 10) (oi := { dst := some 123, op := Op.move (Operand.tmp 11), type := 23, pos := "law.go:158", after := #[], guard := none }) (v := _) rfl (by kernel_rfl) (by kernel_rfl) (by kernel_rfl) (fun _ _ _ h => h) (Or.inl ⟨by rfl, ?hyh10⟩) hH0 ?rh10
      case hyh10 => (intro w' hSw; clear hSw; go_simp; try with_reducible rfl)
      simp only [Act.put, List.setIfInBounds_toArray, List.set_cons_zero, List.set_cons_succ]
      refine wpAnyH_ready (rs := [0]) (by kernel_rfl) (by simp) ?_
      refine AllReadyH.cons (o := { dst := some 113, op := Op.buildSlice 23 0 #[], type := 23, pos := "law.go:158", after := #[], guard := none }) rfl (fun K hK => ?_) AllReadyH.nil
      refine step_build0_run (by rfl) 23 rfl (build0_pg _) ?_
      refine hK.out _ _ (((Keep.refl (fun _ => False) v8).drew).alloc _) (fun hH1 => ?_)
      clear hK K hH0
      simp only [Act.put, List.setIfInBounds_toArray, List.set_cons_zero, List.set_cons_succ]
      have F1 := ro_made v8.drew
      obtain ⟨b4, q4, v4, hr4, F2, f4⟩ := F1.appY ((R1.more ((J8.drew).trans F1.keep)).first d) (by simp) (n1 := 0) (n2 := d) (n3 := d) rfl (by rw [List.length_take, hn1]; omega) (by omega) (by omega)
      refine wpAnyH_ready (rs := [4]) (by kernel_rfl) (by simp) ?_
      refine AllReadyH.cons (o := { dst := some 117, op := Op.call { callee := Callee.builtin Builtin.append, args := #[Operand.tmp 113, Operand.tmp 116], argTypes := #[23, 23] }, type := 23, pos := "law.go:158", after := #[{ on := 0, ground := Ground.data }, { on := 3, ground := Ground.data }], guard := none }) rfl (fun K hK => ?_) AllReadyH.nil
      refine step_append_run (by rfl) (.tmp 113) (.tmp 116) 23 rfl (by rfl) (by rfl) hr4 ?_
      refine hK.out _ _ (((Keep.refl (fun _ => False) v8).drew).trans F2.keep) (fun hH2 => ?_)
      clear hK K hH1
      simp only [Act.put, List.setIfInBounds_toArray, List.set_cons_zero, List.set_cons_succ]
      obtain ⟨b5, q5, v5, hr5, F3, f5⟩ := F2.appY ((R1.more ((J8.drew).trans F2.keep)).cut (t := d + 1) (by omega)) cutP_some (n2 := n1 - (d + 1)) (n3 := n1 - 1) f4 (by rw [List.length_drop, hn1]) (by omega) (by omega)
      refine wpAnyH_ready (rs := [9]) (by kernel_rfl) (by simp) ?_
      refine AllReadyH.cons (o := { dst := some 122, op := Op.call { callee := Callee.builtin Builtin.append, args := #[Operand.tmp 117, Operand.tmp 121], argTypes := #[23, 23] }, type := 23, pos := "law.go:158", after := #[{ on := 4, ground := Ground.data }, { on := 8, ground := Ground.data }, { on := 4, ground := Ground.chain }], guard := none }) rfl (fun K hK => ?_) AllReadyH.nil
      refine step_append_run (by rfl) (.tmp 117) (.tmp 121) 23 rfl (by rfl) (by rfl) hr5 ?_
      refine hK.out _ _ (((Keep.refl (fun _ => False) v8).drew).trans F3.keep) (fun hH3 => ?_)
      clear hK K hH2
      simp only [Act.put, List.setIfInBounds_toArray, List.set_cons_zero, List.set_cons_succ]
      obtain ⟨b6, q6, v6, hr6, F4, f6⟩ := F3.appY (R2.more ((J82.drew).trans F3.keep)) (by simp) (n2 := n2) (n3 := n1 - 1 + n2) f5 hn2 rfl (by omega)
      refine wpAnyH_ready (rs := [11]) (by kernel_rfl) (by simp) ?_
      refine AllReadyH.cons (o := { dst := some 124, op := Op.call { callee := Callee.builtin Builtin.append, args := #[Operand.tmp 122, Operand.tmp 123], argTypes := #[23, 23] }, type := 23, pos := "law.go:158", after := #[{ on := 9, ground := Ground.data }, { on := 10, ground := Ground.data }, { on := 9, ground := Ground.chain }], guard := none }) rfl (fun K hK => ?_) AllReadyH.nil
      refine step_append_run (by rfl) (.tmp 122) (.tmp 123) 23 rfl (by rfl) (by rfl) hr6 ?_
      refine hK.out _ _ (((Keep.refl (fun _ => False) v8).drew).trans F4.keep) (fun hH4 => ?_)
      clear hK K hH3
      simp only [Act.put, List.setIfInBounds_toArray, List.set_cons_zero, List.set_cons_succ]
      have hj2 := HJ F4.rg hq2 (by rw [f6]; omega)
      rw [f6] at hj2
      refine wpAnyH_ready (rs := [12]) (by kernel_rfl) (by simp) ?_
      refine AllReadyH.cons (o := { dst := some 125, op := Op.call { callee := Callee.value (Operand.func 13), args := #[Operand.tmp 124], argTypes := #[23] }, type := 37, pos := "law.go:158", after := #[{ on := 11, ground := Ground.data }, { on := 11, ground := Ground.chain }], guard := none }) rfl (fun K hK => ?_) AllReadyH.nil
      refine step_call_want (vs := #[.slice b6 (n1 - 1 + n2) q6]) (R := fun u wz => ∃ a' c' rs L, u = .slice a' (List.length rs) c' ∧ Rws wz a' c' rs ∧ Says wz rs L ∧ JoinS ([] ++ (cutL s).take d ++ (cutL s).drop (d + 1) ++ cutL t) L ∧ Keep (fun _ => False) v6 wz) (by rfl) 13 #[Operand.tmp 124] #[23] rfl (by simp [Act.eval]) call13 (post_join hj2) ?_
      rintro _ w9 ⟨a9, c9, rs2, L2, rfl, Q9, hsy2, hjs2, k9⟩
      refine hK.out _ _ (((Keep.refl (fun _ => False) v8).drew).trans (F4.keep.trans k9)) (fun hH5 => ?_)
      clear hK K hH4
      simp only [Act.put, List.setIfInBounds_toArray, List.set_cons_zero, List.set_cons_succ]
      refine' wpAnyH_take (i := 13) (oi := { dst := some 15, op := Op.assign (Operand.tmp 125), type := 37, pos := "law.go:158", after := #[{ on := 12, ground := Ground.data }, { on := 12, ground := Ground.chain }, { on := 0, ground := Ground.phase }, { on := 1, ground := Ground.phase }, { on := 2, ground := Ground.phase }, { on := 3, ground := Ground.phase }, { on := 4, ground := Ground.phase }, { on := 5, ground := Ground.phase }, { on := 6, ground := Ground.phase }, { on := 7, ground := Ground.phase }, { on := 8, ground := Ground.phase }, { on := 9, ground := Ground.phase }, { on := 10, ground := Ground.phase }, { on := 11, ground := Ground.phase }, { on := 12, ground := Ground.phase }], guard := none }) (v := _) rfl (by kernel_rfl) (by kernel_rfl) (by kernel_rfl) (fun _ _ _ h => h) (Or.inl ⟨by rfl, ?hyh13⟩) hH5 ?rh13
      case hyh13 => (intro w' hSw; clear hSw; go_simp; try with_reducible rfl)
      simp only [Act.put, List.setIfInBounds_toArray, List.set_cons_zero, List.set_cons_succ]
      refine wpAnyH_done (by kernel_rfl) ?_ _
      refine NoPanic.normal ?_
      obtain rfl : L2 = [t] := join_one hjs2 (join_less hto hlt (by rw [show npg s.bytes.length = n1 from hnN]; exact hd) hmem2)
      obtain ⟨r, rfl⟩ : ∃ r, rs2 = [r] := by
        have := hsy2.1
        match rs2, this with
        | [r], _ => exact ⟨r, rfl⟩
      obtain ⟨-, -, e13, -⟩ := hsy2.2 0 r t rfl rfl
      rw [ht] at e13
      obtain ⟨g9, o9, ha9, hc9⟩ := Q9.at (i := 0) (r := r) rfl
      subst ha9
      have c92 : w9.cell? ⟨g9, o9 + 2, none⟩ = some (.int .u32 6) := by have := hc9 2 (by omega); simpa [rwc, e13] using this
      have hc91 : (1 : Nat) ≤ c9 := Q9.1
      have hc92 := Q9.2.1
      have K9 : Keep (fun _ => False) w w9 := (k0.trans J80).trans (((Keep.refl _ v8).drew).trans (F4.keep.trans k9))
      clear hj2 hjs2 hsy2 Q9 hc9 e13 F1 F2 F3 F4 hr4 hr5 hr6 hs4 hs5 hmem2 hq2
      simp only [List.length_cons, List.length_nil, Nat.zero_add]
      go_wp2_with fail
      go_ret
      exact ⟨rfl, K9⟩
    · have d2 : (2000 : Int) < (len2 : Int) := by omega
      go_wp2_with fail
      go_ret
      exact ⟨rfl, k0⟩
  · have d1 : (2000 : Int) < (len : Int) := by omega
    go_wp2_with fail
    go_ret
    exact ⟨rfl, k0⟩
end Tg
end Go.Proofs.Ytginnojbmpnleaa
