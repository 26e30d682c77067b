/-
  A disk that is an array, asked through its interface; goesWith. What the landed searches find (mathematics). Where a new volume goes: hole, place. A store's calls: Free, Volumes, another, locate, enter. A store's inner calls: another, locate, enter.
-/
import Derived.Test.YtjgnajopomadpaaGreatVa
import Derived.Test.YtjgnajopomadpaaGreatVd
namespace Go.Proofs.YtjgnajopomadpaaGreat
open Go.ChangeShapes Go.WideShapes Go.ChangeAt Go.RowKit
namespace Tg
open Qm Crc
theorem wpList_invoke {w : World} {ops : Array Oper} {rest : List Oper} {o : Oper} {a : Act} {Q : Exit → Act → World → Prop}
    (hw : Region.wanted o (yielded ops a.tmps) = true) (x : Operand) (nm : String) (xs : Array Operand) (ts : Array TypeId) (hop : o.op = Op.call { callee := Callee.invoke x nm, args := xs, argTypes := ts })
    {r : Value} {f : FuncId} {vs us : Array Value} {R : Value → World → Prop} (hr : a.eval x = r) (hx : xs.map a.eval = vs) (he : (invoke (.fn (.method nm) #[]) (#[r] ++ vs)).run Tryz.prog w = .ok (.enter f us) w) (hc : Calls Tryz.prog f us w fun e w2 => ∃ v, e = .returned v ∧ R v w2)
    (hK : ∀ v w', R v w' → wpList Tryz.prog ops Q rest (a.put o.dst v) w') : wpList Tryz.prog ops Q (o :: rest) a w := by
  refine BigFrame.wpList_want hw fun K hK' => ?_
  subst hr hx
  obtain ⟨dst, op, ty, pos, after, guard⟩ := o
  simp only at hop
  subst hop
  have e0 : execOp a.eval { dst := dst, op := Op.call { callee := Callee.invoke x nm, args := xs, argTypes := ts }, type := ty, pos := pos, after := after, guard := guard } = invoke (.fn (.method nm) #[]) (#[a.eval x] ++ xs.map a.eval) := rfl
  unfold Oper.wp
  rw [e0, he, Oper.upon_enter]
  exact hc.mono (by rintro e w2 ⟨v, rfl, hr⟩; exact hK' _ _ (hK v w2 hr))
theorem step_invoke_want {P : Program} {ops : Array Oper} {o : Oper} {a : Act} {w : World} {K : Act → World → Prop} {Q : Exit → Act → World → Prop} {E : Prop}
    (hw : Region.wanted o (yielded ops a.tmps) = true) (x : Operand) (nm : String) (xs : Array Operand) (ts : Array TypeId) (hop : o.op = Op.call { callee := Callee.invoke x nm, args := xs, argTypes := ts })
    {r : Value} {f : FuncId} {vs us : Array Value} {R : Value → World → Prop} (hr : a.eval x = r) (hx : xs.map a.eval = vs) (he : (invoke (.fn (.method nm) #[]) (#[r] ++ vs)).run P w = .ok (.enter f us) w) (hc : Calls P f us w fun e w2 => ∃ v, e = .returned v ∧ R v w2)
    (hK : ∀ v w', R v w' → K (a.put o.dst v) w') : if Region.wanted o (yielded ops a.tmps) = true then Oper.wp P o a w K Q else E := by
  rw [if_pos hw]
  subst hx hr
  obtain ⟨dst, op, ty, pos, after, guard⟩ := o
  simp only at hop
  subst hop
  have e0 : execOp a.eval { dst := dst, op := Op.call { callee := Callee.invoke x nm, args := xs, argTypes := ts }, type := ty, pos := pos, after := after, guard := guard } = invoke (.fn (.method nm) #[]) (#[a.eval x] ++ xs.map a.eval) := rfl
  unfold Oper.wp
  rw [e0, he, Oper.upon_enter]
  exact hc.mono (by rintro e w2 ⟨v, rfl, hr⟩; exact hK v w2 hr)
theorem invContent (p : Nat) (w : World) : (invoke (.fn (.method "Content") #[]) (#[dk p] ++ #[])).run Tryz.prog w = .ok (.enter 24 #[Ptr p]) w := by kernel_rfl
theorem invRead (p : Nat) (x y : Int) (w : World) : (invoke (.fn (.method "Read") #[]) (#[dk p] ++ #[.int .i64 x, .int .i64 y])).run Tryz.prog w = .ok (.enter 95 #[Ptr p, .int .i64 x, .int .i64 y]) w := by kernel_rfl
theorem invTrim (p : Nat) (x y : Int) (w : World) : (invoke (.fn (.method "Trim") #[]) (#[dk p] ++ #[.int .i64 x, .int .i64 y])).run Tryz.prog w = .ok (.enter 96 #[Ptr p, .int .i64 x, .int .i64 y]) w := by kernel_rfl
theorem invWrite (p : Nat) (x y : Int) (d : ByteArray) (w : World) : (invoke (.fn (.method "Write") #[]) (#[dk p] ++ #[.int .i64 x, .int .i64 y, .string d])).run Tryz.prog w = .ok (.enter 17 #[Ptr p, .int .i64 x, .int .i64 y, .string d]) w := by kernel_rfl
set_option maxRecDepth 100000 in
theorem deviceof_any (p : Nat) (w : World) : Calls Tryz.prog 55 #[dk p] w fun e w' => e = .returned (.tuple #[.pointer none, .bool false]) ∧ w' = w := by
  have h1 : ∀ w : World, (Instr.typeAssert (dk p) 64 101 true).run Tryz.prog w = .ok (.tuple #[.pointer none, .bool false]) w := fun _ => by kernel_rfl
  go_enter Tryz.func55, Tryz.ntmps55
  go_wp2_with fail
  exact bodyPost_ret (results_tmp2 rfl _ _ _) rfl ⟨rfl, rfl⟩
set_option maxRecDepth 100000 in
theorem sectors_any {w : World} {p g cap N : Nat} {l : List Int} (h : Arr w p g cap l) (hl : l.length = N * 32) (hN : N ≤ 512) : Calls Tryz.prog 29 #[dk p] w fun e w' => e = .returned (.int .i64 (N : Int)) ∧ w' = w := by
  have hd := deviceof_any p w
  have hc := content_any h
  have hz : (strOfNums l).size = N * 32 := by rw [strOfNums_size, hl]
  have hI := invContent p w
  have hq : ((N * 32 : Nat) : Int) / 32 = N := by omega
  have hq2 : ((N : Int) * 32) / 32 = N := by omega
  generalize strOfNums l = T at *
  clear h hl
  go_enter Tryz.func29, Tryz.ntmps29
  go_wp2_with fail
  refine hd.mono ?_
  rintro e wz ⟨rfl, ez⟩
  have ez := ez.symm
  subst ez
  clear hd
  go_wp2_with fail
  refine hc.mono ?_
  rintro e w2 ⟨rfl, e2⟩
  have e2 := e2.symm
  subst e2
  go_wp2_with fail
  go_ret
  exact ⟨rfl, rfl⟩
/-- Does a volume go with those that are known? -/
def goB (s : Nat → Option En) (x : En) : Bool := decide (feF (fun i => !hitB s (strOfNums x.nm) i) 8 < 0) && decide (feF (fun i => !metB s x.f x.n i) 8 < 0)
set_option maxRecDepth 100000 in
set_option maxHeartbeats 1000000 in
theorem goes_any {w : World} {q p N : Nat} {s : Nat → Option En} (h : Vst w q p N s) (x : En) (hf : 0 ≤ x.f ∧ x.f ≤ 1000000) (hn : 0 ≤ x.n ∧ x.n ≤ 1000000) :
    Calls Tryz.prog 32 #[Ptr q, .agg (trA x)] w fun e w' => e = .returned (.bool (goB s x)) ∧ Keep (fun _ => False) w w' := by
  have L1 : Blk (w.alloc (.cells #[.string (strOfNums x.nm), .int .i64 x.f, .int .i64 x.n] 53)) w.heap.size 3 (trC x) := blk_alloc w _ 53 3 _ (by intro k hk; rcases (by omega : k = 0 ∨ k = 1 ∨ k = 2) with rfl | rfl | rfl <;> rfl)
  have K1 : Keep (fun _ => False) w (w.alloc (.cells #[.string (strOfNums x.nm), .int .i64 x.f, .int .i64 x.n] 53)) := (Keep.refl _ _).alloc _
  have V1 := h.keep K1 (fun e => e)
  have hg : RowKit.Hid (goB s x = (decide (feF (fun i => !hitB s (strOfNums x.nm) i) 8 < 0) && decide (feF (fun i => !metB s x.f x.n i) 8 < 0))) := rfl
  obtain ⟨G, hG⟩ : ∃ G, RowKit.Hid (G = goB s x) := ⟨_, rfl⟩
  rw [← hG.out]
  have c0 := (L1 0 (by omega)).1
  have hfi := find_any V1 (strOfNums x.nm)
  have hme := fun w' (k : Keep (fun _ => False) (w.alloc (.cells #[.string (strOfNums x.nm), .int .i64 x.f, .int .i64 x.n] 53)) w') => meet_any (V1.keep k (fun e => e)) x.f x.n hf hn
  obtain ⟨a, ha⟩ : ∃ a, a = feF (fun i => !hitB s (strOfNums x.nm) i) 8 := ⟨_, rfl⟩
  obtain ⟨b, hb⟩ : ∃ b, b = feF (fun i => !metB s x.f x.n i) 8 := ⟨_, rfl⟩
  rw [← ha] at hfi hg
  rw [← hb] at hg hme
  have hg2 : RowKit.Hid (G = (decide (a < 0) && decide (b < 0))) := by show _ = _; rw [hG.out, hg.out]
  unfold trA
  clear ha hb h V1 hg hG hf hn
  replace L1 : RowKit.Hid (Blk (w.alloc (.cells #[.string (strOfNums x.nm), .int .i64 x.f, .int .i64 x.n] 53)) w.heap.size 3 (trC x)) := L1
  replace K1 : RowKit.Hid (Keep (fun _ => False) w (w.alloc (.cells #[.string (strOfNums x.nm), .int .i64 x.f, .int .i64 x.n] 53))) := K1
  replace hme : RowKit.Hid (∀ w' (k : Keep (fun _ => False) (w.alloc (.cells #[.string (strOfNums x.nm), .int .i64 x.f, .int .i64 x.n] 53)) w'), _) := hme
  go_enter Tryz.func32, Tryz.ntmps32
  go_upto_region 1 with fail
  generalize w.alloc (.cells #[.string (strOfNums x.nm), .int .i64 x.f, .int .i64 x.n] 53) = w1 at *
  generalize w.heap.size = g at *
  go_wp2_with fail
  refine hfi.mono ?_
  rintro e w2 ⟨rfl, k2⟩
  have K2 : RowKit.Hid (Keep (fun _ => False) w w2) := K1.out.trans k2
  have b2 := L1.out.keep k2 (fun e => e)
  have c1 : w2.cell? ⟨g, 1, none⟩ = some (.int .i64 x.f) := (b2 1 (by omega)).1
  have c2 : w2.cell? ⟨g, 2, none⟩ = some (.int .i64 x.n) := (b2 2 (by omega)).1
  have hm := hme.out w2 k2
  clear hme L1 K1 b2 k2 c0 hfi
  by_cases ca : a < 0
  · go_wp2_with fail
    refine hm.mono ?_
    rintro e w3 ⟨rfl, k3⟩
    have K3 : RowKit.Hid (Keep (fun _ => False) w w3) := K2.out.trans k3
    have hR : RowKit.Hid (G = decide (b < 0)) := by show _ = _; rw [hg2.out, decide_eq_true ca]; rfl
    clear hm k3 K2 c1 c2 hg2
    go_wp2_with fail
    go_ret
    exact ⟨by rw [hR.out]; rfl, K3⟩
  · have hR : RowKit.Hid (G = false) := by show _ = _; rw [hg2.out, decide_eq_false ca]; rfl
    clear hm c1 c2 hg2
    go_wp2_with fail
    go_ret
    exact ⟨by rw [hR.out]; rfl, K2⟩
end Tg
end Go.Proofs.YtjgnajopomadpaaGreat
namespace Go.Proofs.YtjgnajopomadpaaGreat
open Go.ChangeShapes Go.WideShapes Go.ChangeAt Go.RowKit
namespace Tg
open Qm Crc
theorem hit_iff {N : Nat} {s : Nat → Option En} (hs : ∀ i e, i < 8 → s i = some e → e.Ok N) {nm : ByteArray} {i : Nat} (hi : i < 8) : hitB s nm i = true ↔ ∃ x, s i = some x ∧ strOfNums x.nm = nm := by
  unfold hitB
  cases h : s i with
  | none => rw [pe_none h]; simp [En.z]
  | some x =>
    rw [pe_some h]
    have h1 := (hs i x hi h).n
    simp; omega
theorem met_iff {N : Nat} {s : Nat → Option En} (hs : ∀ i e, i < 8 → s i = some e → e.Ok N) {f n : Int} {i : Nat} (hi : i < 8) : metB s f n i = true ↔ ∃ x, s i = some x ∧ x.f < f + n ∧ f < x.f + x.n := by
  unfold metB
  cases h : s i with
  | none => rw [pe_none h]; simp [En.z]
  | some x =>
    rw [pe_some h]
    have h1 := (hs i x hi h).n
    simp; omega
theorem fnd_or {N : Nat} {s : Nat → Option En} (h : Sp N s) (nm : ByteArray) : (feF (fun i => !hitB s nm i) 8 = -1 ∧ volOf (lst s) nm = none) ∨ (∃ (i : Nat) (x : En), feF (fun i => !hitB s nm i) 8 = i ∧ i < 8 ∧ s i = some x ∧ strOfNums x.nm = nm ∧ x.i = i ∧ volOf (lst s) nm = some x) := by
  have hs : ∀ i e, i < 8 → s i = some e → e.Ok N := fun i e hi he => (h.ok i e hi he).1
  rcases feF_or (fun i => !hitB s nm i) 8 (Nat.le_refl _) with ⟨h1, h2⟩ | ⟨j, h1, -, h3, h4, -⟩
  · refine Or.inl ⟨h1, no_lst.2 (fun i hi e he hn => ?_)⟩
    have := h2 i (by omega) hi
    rw [(hit_iff hs hi).2 ⟨e, he, hn⟩] at this
    cases this
  · have h4 : hitB s nm j = true := by simpa using h4
    obtain ⟨x, hx, hn⟩ := (hit_iff hs h3).1 h4
    exact Or.inr ⟨j, x, h1, h3, hx, hn, (h.ok j x h3 hx).2.2, h.yes.2 ⟨j, h3, hx, hn⟩⟩
theorem meet_or {N : Nat} {s : Nat → Option En} (hs : ∀ i e, i < 8 → s i = some e → e.Ok N) (f n : Int) : (feF (fun i => !metB s f n i) 8 = -1 ∧ ∀ i x, i < 8 → s i = some x → x.f + x.n ≤ f ∨ f + n ≤ x.f) ∨ (∃ (i : Nat) (x : En), feF (fun i => !metB s f n i) 8 = i ∧ i < 8 ∧ s i = some x ∧ x.f < f + n ∧ f < x.f + x.n) := by
  rcases feF_or (fun i => !metB s f n i) 8 (Nat.le_refl _) with ⟨h1, h2⟩ | ⟨j, h1, -, h3, h4, -⟩
  · refine Or.inl ⟨h1, fun i x hi hx => ?_⟩
    have := h2 i (by omega) hi
    by_cases c : x.f < f + n ∧ f < x.f + x.n
    · rw [(met_iff hs hi).2 ⟨x, hx, c⟩] at this
      cases this
    · omega
  · have h4 : metB s f n j = true := by simpa using h4
    obtain ⟨x, hx, hn⟩ := (met_iff hs h3).1 h4
    exact Or.inr ⟨j, x, h1, h3, hx, hn⟩
theorem free_or (s : Nat → Option En) : (feF (fun i => (s i).isSome) 8 = -1 ∧ ∀ i, i < 8 → (s i).isSome = true) ∨ (∃ j : Nat, feF (fun i => (s i).isSome) 8 = j ∧ j < 8 ∧ s j = none ∧ ∀ i, i < j → (s i).isSome = true) := by
  rcases feF_or (fun i => (s i).isSome) 8 (Nat.le_refl _) with ⟨h1, h2⟩ | ⟨j, h1, -, h3, h4, h5⟩
  · exact Or.inl ⟨h1, fun i hi => h2 i (by omega) hi⟩
  · refine Or.inr ⟨j, h1, h3, ?_, fun i hi => h5 i (by omega) hi⟩
    cases hj : s j with
    | none => rfl
    | some e => simp [hj] at h4
/-- The least hole of n sectors. -/
structure Hole (N : Nat) (s : Nat → Option En) (n H : Nat) : Prop where
  ge : 8 ≤ H
  le : H ≤ N
  no : ∀ i x, i < 8 → s i = some x → x.f + x.n ≤ H ∨ ((H + n : Nat) : Int) ≤ x.f
  min : ∀ b, 8 ≤ b → b < H → ∃ i x, i < 8 ∧ s i = some x ∧ x.f < ((b + n : Nat) : Int) ∧ (b : Int) < x.f + x.n
theorem Hole.fits {N : Nat} {s : Nat → Option En} {n H : Nat} (h : Hole N s n H) (hn : H + n ≤ N) : Fits N s n H := ⟨h.ge, hn, fun i hi e he => h.no i e hi he⟩
theorem Hole.less {N : Nat} {s : Nat → Option En} {n H b : Nat} (h : Hole N s n H) (hb : b < H) : ¬ Fits N s n b := fun hf => by
  obtain ⟨i, x, hi, hx, h1, h2⟩ := h.min b hf.1 hb
  have := hf.2.2 i hi x hx
  omega
/-- Where a new volume goes: what place tells. -/
theorem place_is {N : Nat} {s : Nat → Option En} (h : Sp N s) {n H : Nat} (hn : 1 ≤ n) (hH : Hole N s n H) (_ : N ≤ 512) :
    (roomL N (lst s) n = none ∧ (feF (fun i => (s i).isSome) 8 < 0 ∨ ((N : Int) - H < n))) ∨ (∃ j : Nat, roomL N (lst s) n = some (H, (j : Int)) ∧ feF (fun i => (s i).isSome) 8 = j ∧ (n : Int) ≤ N - H ∧ j < 8 ∧ s j = none ∧ Fits N s n H) := by
  rcases h.room hn with ⟨h1, h2⟩ | ⟨a, j, h1, h2, h3, h4, h5, h6⟩
  · refine Or.inl ⟨h1, ?_⟩
    rcases free_or s with ⟨h3, -⟩ | ⟨j, h3, h4, h5, h6⟩
    · exact Or.inl (by omega)
    · rcases h2 with h2 | h2
      · have := h2 j h4
        rw [h5] at this
        cases this
      · by_cases c : H + n ≤ N
        · exact absurd (hH.fits c) (h2 H)
        · exact Or.inr (by omega)
  · have e1 : a = H := by
      rcases Nat.lt_trichotomy a H with c | c | c
      · exact absurd h5 (hH.less c)
      · exact c
      · exact absurd (hH.fits (by have := h5.2.1; omega)) (h6 H c)
    subst e1
    refine Or.inr ⟨j, h1, ?_, by have := h5.2.1; omega, h2, h3, h5⟩
    rcases free_or s with ⟨-, h7⟩ | ⟨k, h7, h8, h9, h10⟩
    · have := h7 j h2
      rw [h3] at this
      cases this
    · rcases Nat.lt_trichotomy k j with c | c | c
      · have := h4 k c
        rw [h9] at this
        cases this
      · rw [h7, c]
      · have := h10 j c
        rw [h3] at this
        cases this
end Tg
end Go.Proofs.YtjgnajopomadpaaGreat
namespace Go.Proofs.YtjgnajopomadpaaGreat
open Go.ChangeShapes Go.WideShapes Go.ChangeAt Go.RowKit
namespace Tg
open Qm Crc
set_option maxRecDepth 100000 in
set_option maxHeartbeats 1000000 in
theorem hole_any {w : World} {q p N : Nat} {s : Nat → Option En} (h : Vst w q p N s) {n : Nat} (hn : 1 ≤ n ∧ n ≤ 512) :
    Calls Tryz.prog 62 #[Ptr q, .int .i64 (n : Int)] w fun e w' => ∃ H : Nat, e = .returned (.int .i64 (H : Int)) ∧ Hole N s n H ∧ Keep (fun _ => False) w w' := by
  have hme : RowKit.Hid (∀ (H : Nat) w', Keep (fun _ => False) w w' → H ≤ N → Calls Tryz.prog 60 #[Ptr q, .int .i64 (H : Int), .int .i64 (n : Int)] w' fun e w'' => e = .returned (.int .i64 (feF (fun i => !metB s (H : Int) n i) 8)) ∧ Keep (fun _ => False) w' w'') :=
    fun H w' k hH => meet_any (h.keep k (fun e => e)) H n (by have := h.N9; omega) (by omega)
  have hV : RowKit.Hid (Vst w q p N s) := h
  have hm8 := hme.out 8 w (Keep.refl _ _) (by have := h.N9; omega)
  have hN : RowKit.Hid (9 ≤ N ∧ N ≤ 512) := h.N9
  have hn' : RowKit.Hid (1 ≤ n ∧ n ≤ 512) := hn
  clear h hn
  go_enter Tryz.func62, Tryz.ntmps62
  go_wp2_with fail
  refine hm8.mono ?_
  rintro e w1 ⟨rfl, k1⟩
  have K1 : RowKit.Hid (Keep (fun _ => False) w w1) := k1
  clear hm8 k1
  go_wp2_with fail
  go_loopw [5, 6] (fun fv v wx => ∃ H : Nat, fv = .int .i64 (H : Int) ∧ v = .int .i64 (feF (fun i => !metB s (H : Int) n i) 8) ∧ RowKit.Hid (8 ≤ H ∧ H ≤ N ∧ ∀ b, 8 ≤ b → b < H → ∃ i x, i < 8 ∧ s i = some x ∧ x.f < ((b + n : Nat) : Int) ∧ (b : Int) < x.f + x.n) ∧ RowKit.Hid (Keep (fun _ => False) w wx)) (fun fv _ _ => N - (intOf fv).toNat)
  case atStart => exact ⟨8, rfl, rfl, ⟨by omega, by have := hN.out; omega, fun b h1 h2 => by omega⟩, K1⟩
  case round =>
    clear K1
    obtain ⟨H, rfl, rfl, hH, hK⟩ := hrel
    rcases meet_or hV.out.ok (H : Int) (n : Int) with ⟨h1, h2⟩ | ⟨j, x, h1, hj, hx, h3, h4⟩
    · have hR : RowKit.Hid (Hole N s n H) := ⟨hH.out.1, hH.out.2.1, fun i x hi hx => by have := h2 i x hi hx; omega, hH.out.2.2⟩
      rw [h1]
      clear h1 h2 hH hme hV hN hn'
      go_wp2_with fail
      go_ret
      exact ⟨H, rfl, hR.out, hK.out⟩
    · rw [h1]
      have hok := hV.out.ok j x hj hx
      have hf := hok.f; have hnn := hok.n; have hfn := hok.fn
      obtain ⟨H1, hH1⟩ : ∃ H1 : Nat, (H1 : Int) = x.f + x.n := ⟨(x.f + x.n).toNat, by omega⟩
      have hst := stC_at (hV.out.keep hK.out (fun e => e)).blk hj
      rw [pe_some hx] at hst
      have hz : RowKit.Hid (∀ w', Keep (fun _ => False) wr w' → w'.cell? ⟨q, 2 + j * 3 + 1, none⟩ = some (.int .i64 x.f) ∧ w'.cell? ⟨q, 2 + j * 3 + 2, none⟩ = some (.int .i64 x.n)) := by
        intro w' k
        have := stC_at ((hV.out.keep hK.out (fun e => e)).keep k (fun e => e)).blk hj
        rw [pe_some hx] at this
        exact this.2
      have hw : IntKind.i64.wrap (x.f + x.n) = (H1 : Int) := by rw [← hH1]; exact wrapI (by have := hN.out; omega) (by have := hN.out; omega)
      have hnx : RowKit.Hid (8 ≤ H1 ∧ H1 ≤ N ∧ ∀ b, 8 ≤ b → b < H1 → ∃ i x, i < 8 ∧ s i = some x ∧ x.f < ((b + n : Nat) : Int) ∧ (b : Int) < x.f + x.n) := by
        refine ⟨by omega, by omega, fun b hb1 hb2 => ?_⟩
        by_cases c : b < H
        · exact hH.out.2.2 b hb1 c
        · exact ⟨j, x, hj, hx, by omega, by omega⟩
      have hlt : RowKit.Hid (H < H1 ∧ H1 ≤ N) := ⟨by omega, by omega⟩
      have j0 : (0 : Int) ≤ (j : Int) := by omega
      have j8 : (j : Int) < 8 := by omega
      generalize x.f = xf at *
      generalize x.n = xn at *
      clear h1 h3 h4 hst hH hok hf hnn hfn hH1 hx
      go_upto_region 5 with fail
      refine wp_region_noPanic ?_
      refine wp_region_held_drew (S := fun w' => Keep (fun _ => False) wr w') (by kernel_rfl) ((Keep.refl (fun _ => False) _).drew) (fun hH0 => ?_)
      refine tk 0 hH0 ?_
      refine tk 1 hH0 ?_
      refine tk 2 hH0 ?_
      refine tk 3 hH0 ?_
      refine tk 4 hH0 ?_
      refine tk 5 hH0 ?_
      refine tk 6 hH0 ?_ (hy := Or.inl ⟨by rfl, by intro w' hSw; have z1 := (hz.out w' hSw).1; have z2 := (hz.out w' hSw).2; clear hSw; go_simp; try with_reducible rfl⟩)
      refine tk 7 hH0 ?_
      refine tk 8 hH0 ?_
      refine tk 9 hH0 ?_
      refine tk 10 hH0 ?_
      refine tk 11 hH0 ?_
      refine tk 12 hH0 ?_
      refine tk 13 hH0 ?_ (hy := Or.inl ⟨by rfl, by intro w' hSw; have z1 := (hz.out w' hSw).1; have z2 := (hz.out w' hSw).2; clear hSw; go_simp; try with_reducible rfl⟩)
      refine tk 14 hH0 ?_
      refine tk 15 hH0 ?_
      refine wpAnyH_done (by kernel_rfl) ?_ _
      refine NoPanic.normal ?_
      have hm1 := hme.out H1 wr.drew hK.out.drew hlt.out.2
      have K5 : RowKit.Hid (Keep (fun _ => False) w wr.drew) := hK.out.drew
      clear hz hK hH0
      generalize wr.drew = w5 at *
      go_wp2_with fail
      refine hm1.mono ?_
      rintro e w6 ⟨rfl, k6⟩
      have K6 : RowKit.Hid (Keep (fun _ => False) w w6) := K5.out.trans k6
      clear hm1 K5 k6
      go_wp2_with fail
      go_roundw
      case rel => exact ⟨H1, rfl, rfl, hnx.out, K6⟩
      case measure => have := hlt.out; simp [intOf]; omega
set_option maxRecDepth 100000 in
set_option maxHeartbeats 1000000 in
theorem place_any {w : World} {q p N : Nat} {s : Nat → Option En} (h : Vst w q p N s) (sp : Sp N s) {n : Nat} (hn : 1 ≤ n ∧ n ≤ 512) :
    Calls Tryz.prog 34 #[Ptr q, .int .i64 (n : Int)] w fun e w' => ∃ a b : Int, e = .returned (.tuple #[.int .i64 a, .int .i64 b, .bool (roomL N (lst s) n).isSome]) ∧ (∀ H j, roomL N (lst s) n = some (H, j) → a = j ∧ b = H) ∧ Keep (fun _ => False) w w' := by
  have hfe := fentry_any h
  have hho : RowKit.Hid (∀ w', Keep (fun _ => False) w w' → Calls Tryz.prog 62 #[Ptr q, .int .i64 (n : Int)] w' fun e w'' => ∃ H : Nat, e = .returned (.int .i64 (H : Int)) ∧ Hole N s n H ∧ Keep (fun _ => False) w' w'') := fun w' k => hole_any (h.keep k (fun e => e)) hn
  have hce : RowKit.Hid (∀ w', Keep (fun _ => False) w w' → w'.cell? ⟨q, 1, none⟩ = some (.int .i64 (N : Int))) := fun w' k => ((h.blk.keep k (fun e => e)) 1 (by omega)).1
  have hN : RowKit.Hid (9 ≤ N ∧ N ≤ 512) := h.N9
  have hpl : RowKit.Hid (∀ H, Hole N s n H → _) := fun H hH => place_is sp hn.1 hH h.N9.2
  have hfo : RowKit.Hid (feF (fun i => (s i).isSome) 8 = -1 ∨ ∃ j : Nat, feF (fun i => (s i).isSome) 8 = j ∧ j < 8) := by
    rcases free_or s with ⟨h1, -⟩ | ⟨j, h1, h2, -⟩
    · exact Or.inl h1
    · exact Or.inr ⟨j, h1, h2⟩
  obtain ⟨m, hm⟩ : ∃ m, m = feF (fun i => (s i).isSome) 8 := ⟨_, rfl⟩
  obtain ⟨R, hR⟩ : ∃ R, R = roomL N (lst s) n := ⟨_, rfl⟩
  rw [← hm] at hfe hfo hpl
  rw [← hR] at hpl ⊢
  clear hm hR h
  go_enter Tryz.func34, Tryz.ntmps34
  go_wp2_with fail
  refine hfe.mono ?_
  rintro e w1 ⟨rfl, k1⟩
  have K1 : RowKit.Hid (Keep (fun _ => False) w w1) := k1
  have hh := hho.out w1 k1
  clear hfe k1 hho
  go_wp2_with fail
  refine hh.mono ?_
  rintro e w2 ⟨H, rfl, hH, k2⟩
  have K2 : RowKit.Hid (Keep (fun _ => False) w w2) := K1.out.trans k2
  have hz : RowKit.Hid (∀ w', Keep (fun _ => False) w2 w' → w'.cell? ⟨q, 1, none⟩ = some (.int .i64 (N : Int))) := fun w' k => hce.out w' (K2.out.trans k)
  have hp := hpl.out H hH
  have hHle := hH.le
  have hw : IntKind.i64.wrap ((N : Int) - H) = (N : Int) - H := wrapI (by have := hN.out; omega) (by have := hN.out; omega)
  have h65 : (H : Int) ≤ 65535 := by have := hN.out; omega
  clear hh k2 K1 hce hpl hH
  go_upto_region 3 with fail
  rcases hfo.out with hm1 | ⟨j, hm1, hj8⟩
  · have hF : RowKit.Hid (R = none) := by
      rcases hp with ⟨h1, -⟩ | ⟨j, -, h2, -⟩
      · exact h1
      · omega
    subst hm1
    clear hp hfo hN hw h65 hHle hz
    refine wp_region_noPanic ?_
    refine wp_region_held_drew (S := fun w' => Keep (fun _ => False) w2 w') (by kernel_rfl) ((Keep.refl (fun _ => False) _).drew) (fun hH0 => ?_)
    refine tk 0 hH0 ?_
    refine tk 1 hH0 ?_
    refine tk 2 hH0 ?_
    refine tk 3 hH0 ?_
    refine tk 4 hH0 ?_
    refine tk 5 (v := undef) hH0 ?_ (hy := Or.inr ⟨by rfl, by rfl⟩)
    refine tk 6 (v := undef) hH0 ?_ (hy := Or.inr ⟨by rfl, by rfl⟩)
    refine tk 7 hH0 ?_
    refine tk 8 hH0 ?_
    refine tk 9 (v := undef) hH0 ?_ (hy := Or.inr ⟨by rfl, by rfl⟩)
    refine tk 10 (v := undef) hH0 ?_ (hy := Or.inr ⟨by rfl, by rfl⟩)
    refine tk 11 (v := undef) hH0 ?_ (hy := Or.inr ⟨by rfl, by rfl⟩)
    refine tk 12 (v := undef) hH0 ?_ (hy := Or.inr ⟨by rfl, by rfl⟩)
    refine tk 13 (v := undef) hH0 ?_ (hy := Or.inr ⟨by rfl, by rfl⟩)
    refine tk 14 (v := undef) hH0 ?_ (hy := Or.inr ⟨by rfl, by rfl⟩)
    refine tk 15 (v := undef) hH0 ?_ (hy := Or.inr ⟨by rfl, by rfl⟩)
    refine tk 16 (v := undef) hH0 ?_ (hy := Or.inr ⟨by rfl, by rfl⟩)
    refine tk 17 hH0 ?_
    refine tk 18 hH0 ?_
    refine tk 19 hH0 ?_
    refine tk 20 hH0 ?_
    refine wpAnyH_done (by kernel_rfl) ?_ _
    refine NoPanic.normal ?_
    go_wp2_with fail
    refine bodyPost_ret (results_tmp3 rfl _ _ _) rfl ⟨-1, _, by rw [hF.out]; rfl, ?_, K2.out.drew⟩
    intro H' j' e
    rw [hF.out] at e
    cases e
  · subst hm1
    have j0 : (0 : Int) ≤ (j : Int) := by omega
    by_cases c : (n : Int) ≤ (N : Int) - H
    · have hF : RowKit.Hid (R = some (H, (j : Int))) := by
        rcases hp with ⟨-, h1⟩ | ⟨j', h1, h2, -⟩
        · omega
        · show R = _
          rw [h1, h2]
      clear hp hfo hN hHle
      refine wp_region_noPanic ?_
      refine wp_region_held_drew (S := fun w' => Keep (fun _ => False) w2 w') (by kernel_rfl) ((Keep.refl (fun _ => False) _).drew) (fun hH0 => ?_)
      refine tk 0 hH0 ?_
      refine tk 1 hH0 ?_
      refine tk 2 hH0 ?_
      refine tk 3 hH0 ?_
      refine tk 4 hH0 ?_
      refine tk 5 hH0 ?_
      refine tk 6 hH0 ?_
      refine tk 7 hH0 ?_
      refine tk 8 hH0 ?_
      refine tk 9 hH0 ?_
      refine tk 10 hH0 ?_
      refine tk 11 hH0 ?_
      refine tk 12 hH0 ?_
      refine tk 13 hH0 ?_ (hy := Or.inl ⟨by rfl, by intro w' hSw; have z1 := hz.out w' hSw; clear hSw; go_simp; try with_reducible rfl⟩)
      refine tk 14 hH0 ?_
      refine tk 15 hH0 ?_
      refine tk 16 hH0 ?_
      refine tk 17 hH0 ?_
      refine tk 18 hH0 ?_
      refine tk 19 hH0 ?_
      refine tk 20 hH0 ?_
      refine wpAnyH_done (by kernel_rfl) ?_ _
      refine NoPanic.normal ?_
      go_wp2_with fail
      refine bodyPost_ret (results_tmp3 rfl _ _ _) rfl ⟨(j : Int), (H : Int), by rw [hF.out]; rfl, ?_, K2.out.drew⟩
      intro H' j' e
      rw [hF.out] at e
      injection e with e
      injection e with e1 e2
      subst e1 e2
      exact ⟨rfl, rfl⟩
    · have hF : RowKit.Hid (R = none) := by
        rcases hp with ⟨h1, -⟩ | ⟨j', -, -, h2, -⟩
        · exact h1
        · omega
      clear hp hfo hN hHle
      refine wp_region_noPanic ?_
      refine wp_region_held_drew (S := fun w' => Keep (fun _ => False) w2 w') (by kernel_rfl) ((Keep.refl (fun _ => False) _).drew) (fun hH0 => ?_)
      refine tk 0 hH0 ?_
      refine tk 1 hH0 ?_
      refine tk 2 hH0 ?_
      refine tk 3 hH0 ?_
      refine tk 4 hH0 ?_
      refine tk 5 hH0 ?_
      refine tk 6 hH0 ?_
      refine tk 7 hH0 ?_
      refine tk 8 hH0 ?_
      refine tk 9 hH0 ?_
      refine tk 10 hH0 ?_
      refine tk 11 hH0 ?_
      refine tk 12 hH0 ?_
      refine tk 13 hH0 ?_ (hy := Or.inl ⟨by rfl, by intro w' hSw; have z1 := hz.out w' hSw; clear hSw; go_simp; try with_reducible rfl⟩)
      refine tk 14 hH0 ?_
      refine tk 15 hH0 ?_
      refine tk 16 hH0 ?_
      refine tk 17 hH0 ?_
      refine tk 18 hH0 ?_
      refine tk 19 hH0 ?_
      refine tk 20 hH0 ?_
      refine wpAnyH_done (by kernel_rfl) ?_ _
      refine NoPanic.normal ?_
      go_wp2_with fail
      refine bodyPost_ret (results_tmp3 rfl _ _ _) rfl ⟨(j : Int), (H : Int), by rw [hF.out]; rfl, ?_, K2.out.drew⟩
      intro H' j' e
      rw [hF.out] at e
      cases e
end Tg
end Go.Proofs.YtjgnajopomadpaaGreat
namespace Go.Proofs.YtjgnajopomadpaaGreat
open Go.ChangeShapes Go.WideShapes Go.ChangeAt Go.RowKit
namespace Tg
open Qm Crc
/-- The volumes of the first places. -/
def lstK (s : Nat → Option En) (k : Nat) : List En := (List.range k).filterMap s
theorem lstK_8 (s : Nat → Option En) : lstK s 8 = lst s := rfl
theorem lstK_go (s : Nat → Option En) (k : Nat) : lstK s (k + 1) = lstK s k ++ (match s k with | none => [] | some x => [x]) := by
  unfold lstK
  rw [List.range_succ, List.filterMap_append]
  congr 1
  cases h : s k <;> simp [h]
theorem lensF_app (a b : List En) : lensF (a ++ b) = lensF a + lensF b := by
  induction a with
  | nil => simp [lensF]
  | cons x a ih => simp only [List.cons_append, lensF, ih]; omega
theorem lensK_go (s : Nat → Option En) (k : Nat) : lensF (lstK s (k + 1)) = lensF (lstK s k) + (pe s k).n := by
  rw [lstK_go, lensF_app]
  cases h : s k with
  | none => rw [pe_none h]; rfl
  | some x => rw [pe_some h]; simp [lensF]
theorem lstK_len (s : Nat → Option En) (k : Nat) : (lstK s k).length ≤ k := by
  unfold lstK
  have := List.length_filterMap_le s (List.range k)
  rw [List.length_range] at this
  exact this
theorem Vst.lens {w : World} {q p N : Nat} {s : Nat → Option En} (h : Vst w q p N s) {k : Nat} (hk : k ≤ 8) : 0 ≤ lensF (lstK s k) ∧ lensF (lstK s k) ≤ 4096 := by
  have hN := h.N9
  have h1 := lensF_bd (l := lstK s k) (N := N) (fun x hx => by
    obtain ⟨i, hi, he⟩ := List.mem_filterMap.1 hx
    have := List.mem_range.1 hi
    exact h.ok i x (by omega) he)
  have h2 := lstK_len s k
  have h3 : (lstK s k).length * N ≤ 8 * 512 := Nat.mul_le_mul (by omega) hN.2
  have h4 : ((lstK s k).length : Int) * N = (((lstK s k).length * N : Nat) : Int) := by rw [Int.natCast_mul]
  omega
set_option maxRecDepth 100000 in
set_option maxHeartbeats 1000000 in
theorem free_any {w : World} {q p N : Nat} {s : Nat → Option En} (h : Vst w q p N s) : Calls Tryz.prog 26 #[Ptr q] w fun e w' => e = .returned (.int .i64 (N - 8 - lensF (lst s))) ∧ Keep (fun _ => False) w w' := by
  obtain ⟨F, hF⟩ : ∃ F, RowKit.Hid (F = (N : Int) - 8 - lensF (lst s)) := ⟨_, rfl⟩
  rw [← hF.out]
  have hld := load67 h.blk
  have hix := index67 s
  have hbd : RowKit.Hid (∀ i : Nat, i < 8 → 0 ≤ (pe s i).n ∧ (pe s i).n ≤ 512 ∧ 0 ≤ lensF (lstK s i) ∧ lensF (lstK s i) ≤ 4096) := fun i hi => ⟨(h.bd hi).2.2.1, (h.bd hi).2.2.2.1, h.lens (by omega)⟩
  have hc1 : w.cell? ⟨q, 1, none⟩ = some (.int .i64 (N : Int)) := (h.blk 1 (by omega)).1
  have hN : RowKit.Hid (9 ≤ N ∧ N ≤ 512) := h.N9
  have hw0 : IntKind.i64.wrap ((N : Int) - 8) = (N : Int) - 8 := wrapI (by have := h.N9; omega) (by have := h.N9; omega)
  generalize (stL s).toArray = A at *
  clear h
  go_enter Tryz.func26, Tryz.ntmps26
  go_wp2_with (guard_target =~ wpList _ _ _ (Oper.mk _ (Op.load 67 _) _ _ _ _ :: _) _ _; refine wpList_load_run (by rfl) 67 (.tmp 13) rfl (by rfl) hld ?_)
  replace hix : RowKit.Hid (∀ i : Nat, i < 8 → ∀ w, (Instr.index 67 (.agg A) (.int .i64 (i : Int))).run Tryz.prog w = .ok (.agg #[.string (strOfNums (pe s i).nm), .int .i64 (pe s i).f, .int .i64 (pe s i).n]) w) := hix
  clear hld hc1
  go_loopw [3, 15] (fun fv v wx => ∃ (i : Nat) (S : Int), fv = .int .i64 S ∧ v = .int .i64 (i : Int) ∧ RowKit.Hid (i ≤ 8 ∧ S = N - 8 - lensF (lstK s i)) ∧ RowKit.Hid (Keep (fun _ => False) w wx)) (fun _ v _ => 8 - (intOf v).toNat)
  case atStart => exact ⟨0, _, rfl, rfl, ⟨by omega, by simp [lstK, lensF]⟩, Keep.refl _ _⟩
  case round =>
    clear hw0
    obtain ⟨i, S, rfl, rfl, hi, hK⟩ := hrel
    by_cases hin : i = 8
    · have hFF : RowKit.Hid (F = S) := by show F = S; rw [hF.out, hi.out.2, hin]; rfl
      have hge : ¬ (i : Int) < 8 := by omega
      clear hi hin hbd hix hF hN
      go_wp2_with fail
      go_ret
      exact ⟨by rw [hFF.out]; rfl, hK⟩
    · have hlt : (i : Int) < 8 := by have := hi.out.1; omega
      have hi8 : i < 8 := by have := hi.out.1; omega
      have hb := hbd.out i hi8
      have hx := hix.out i hi8
      have hw : IntKind.i64.wrap ((i : Int) + 1) = ((i + 1 : Nat) : Int) := by rw [show (i : Int) + 1 = ((i + 1 : Nat) : Int) by omega]; exact wrapI (by omega) (by omega)
      have hnx : RowKit.Hid (i + 1 ≤ 8 ∧ S - (pe s i).n = N - 8 - lensF (lstK s (i + 1))) := ⟨by omega, by rw [lensK_go, hi.out.2]; omega⟩
      have hw2 : IntKind.i64.wrap (S - (pe s i).n) = S - (pe s i).n := by have h1 := hi.out.2; have h2 := hN.out; exact wrapI (by omega) (by omega)
      generalize strOfNums (pe s i).nm = xs at *
      generalize (pe s i).f = f at *
      generalize (pe s i).n = n at *
      have hw1 : RowKit.Hid (Keep (fun _ => False) w (wr.alloc (.cells #[.string xs, .int .i64 f, .int .i64 n] 53))) := hK.out.alloc _
      clear hbd hix hin hK hb hi hF hN
      go_wp2_with fail
      go_roundw
      case rel => exact ⟨i + 1, _, rfl, rfl, hnx, hw1⟩
      case measure => simp [intOf]; omega
theorem info53 : (Tryz.prog.info? 53).map (fun i => (i.zero, i.size, i.bytes)) = some (some (.agg #[.string ⟨#[]⟩, .int .i64 0, .int .i64 0]), 3, 32) := by kernel_rfl
theorem Vv.app {w0 w : World} {a : Option Addr} {cap : Nat} {l : List En} (h : Vv w0 w a cap l) (hl : l.length ≤ 1000) (x : En) :
    ∃ a' cap' w', (Builtin.append_ #[49, 49] 49 #[.slice a l.length cap, .slice (some ⟨w.heap.size, 0, none⟩) 1 1]).run Tryz.prog (w.alloc (.cells (trA x) 53)) = .ok (.slice a' (l.length + 1) cap') w' ∧ Vv w0 w' a' cap' (l ++ [x]) := by
  obtain ⟨a', cap', w', h1, h2⟩ := Gw.app1 (t := 49) Tryz.underlying49 info53 rfl (by decide) (by decide) h (by omega) (trA x).toList rfl (by intro u hu; simp [trA] at hu; rcases hu with rfl | rfl | rfl <;> rfl)
  refine ⟨a', cap', w', h1, ?_⟩
  show Gw 53 3 w0 w' a' (l ++ [x]).length cap' (vCs (l ++ [x]))
  rw [List.length_append, show vCs (l ++ [x]) = vCs l ++ (trA x).toList by simp [vCs, trA]]
  exact h2
theorem Vv.more {w0 w w' : World} {a : Option Addr} {cap : Nat} {l : List En} (h : Vv w0 w a cap l) (k : Keep (fun _ => False) w w') : Vv w0 w' a cap l := Gw.more h k
set_option maxRecDepth 100000 in
set_option maxHeartbeats 1000000 in
theorem vols_any {w : World} {q p N : Nat} {s : Nat → Option En} (h : Vst w q p N s) : Calls Tryz.prog 25 #[Ptr q] w fun e w' => ∃ a c n, e = .returned (.slice a n c) ∧ n = (lst s).length ∧ Vv w w' a c (lst s) := by
  have hld := load67 h.blk
  have hix := index67 s
  have hbd : RowKit.Hid (∀ i : Nat, i < 8 → 0 ≤ (pe s i).f ∧ (pe s i).f ≤ 512 ∧ 0 ≤ (pe s i).n ∧ (pe s i).n ≤ 512 ∧ (0 < (pe s i).n ↔ (s i).isSome = true)) := fun i hi => h.bd hi
  generalize (stL s).toArray = A at *
  clear h
  go_enter Tryz.func25, Tryz.ntmps25
  go_wp2_with (guard_target =~ wpList _ _ _ (Oper.mk _ (Op.load 67 _) _ _ _ _ :: _) _ _; refine wpList_load_run (by rfl) 67 (.tmp 8) rfl (by rfl) hld ?_)
  replace hix : RowKit.Hid (∀ i : Nat, i < 8 → ∀ w, (Instr.index 67 (.agg A) (.int .i64 (i : Int))).run Tryz.prog w = .ok (.agg #[.string (strOfNums (pe s i).nm), .int .i64 (pe s i).f, .int .i64 (pe s i).n]) w) := hix
  clear hld
  go_loopw [3, 10] (fun lv v wx => ∃ (i : Nat) (a : Option Addr) (c n : Nat), lv = .slice a n c ∧ v = .int .i64 (i : Int) ∧ RowKit.Hid (i ≤ 8 ∧ n = (lstK s i).length) ∧ RowKit.Hid (Vv w wx a c (lstK s i))) (fun _ v _ => 8 - (intOf v).toNat)
  case atStart => exact ⟨0, none, 0, 0, rfl, rfl, ⟨by omega, rfl⟩, Gw.nil _ _ (Keep.refl _ _)⟩
  case round =>
    obtain ⟨i, a, c, n, rfl, rfl, hi, hV⟩ := hrel
    by_cases hin : i = 8
    · subst hin
      have hn : RowKit.Hid (n = (lst s).length) := hi.out.2
      have hge : ¬ (((8 : Nat) : Int)) < 8 := by omega
      clear hi hbd hix
      go_wp2_with fail
      go_ret
      exact ⟨a, c, n, rfl, hn.out, hV.out⟩
    · have hlt : (i : Int) < 8 := by have := hi.out.1; omega
      have hi8 : i < 8 := by have := hi.out.1; omega
      have hb := hbd.out i hi8
      have hx := hix.out i hi8
      have hw : IntKind.i64.wrap ((i : Int) + 1) = ((i + 1 : Nat) : Int) := by rw [show (i : Int) + 1 = ((i + 1 : Nat) : Int) by omega]; exact wrapI (by omega) (by omega)
      have hgo := lstK_go s i
      have hln := lstK_len s i
      have hA : trA (pe s i) = #[.string (strOfNums (pe s i).nm), .int .i64 (pe s i).f, .int .i64 (pe s i).n] := rfl
      have kA : Keep (fun _ => False) wr (wr.alloc (.cells #[.string (strOfNums (pe s i).nm), .int .i64 (pe s i).f, .int .i64 (pe s i).n] 53)) := (Keep.refl _ _).alloc _
      have LA : Blk (wr.alloc (.cells #[.string (strOfNums (pe s i).nm), .int .i64 (pe s i).f, .int .i64 (pe s i).n] 53)) wr.heap.size 3 (trC (pe s i)) := blk_alloc wr _ 53 3 _ (by intro k hk; rcases (by omega : k = 0 ∨ k = 1 ∨ k = 2) with rfl | rfl | rfl <;> rfl)
      have hV2 : RowKit.Hid (Vv w (wr.alloc (.cells #[.string (strOfNums (pe s i).nm), .int .i64 (pe s i).f, .int .i64 (pe s i).n] 53)) a c (lstK s i)) := hV.out.more kA
      obtain ⟨a2, c2, w2, hap, hV3⟩ := Vv.app hV2.out (by omega) (pe s i)
      have hl3 := load53 LA
      have c2' : (wr.alloc (.cells #[.string (strOfNums (pe s i).nm), .int .i64 (pe s i).f, .int .i64 (pe s i).n] 53)).cell? ⟨wr.heap.size, 2, none⟩ = some (.int .i64 (pe s i).n) := (LA 2 (by omega)).1
      rw [← hi.out.2, hA] at hap
      rw [hA] at hl3
      have hT : RowKit.Hid (0 < (pe s i).n → lstK s (i + 1) = lstK s i ++ [pe s i]) := by
        intro hp
        have := hb.2.2.2.2.1 hp
        obtain ⟨x, hx⟩ := Option.isSome_iff_exists.1 this
        rw [hgo, hx, pe_some hx]
      have hU : RowKit.Hid (¬ 0 < (pe s i).n → lstK s (i + 1) = lstK s i) := by
        intro hp
        cases hs : s i with
        | some x => exact absurd (hb.2.2.2.2.2 (by rw [hs]; rfl)) hp
        | none => rw [hgo, hs]; simp
      replace hV3 : RowKit.Hid (Vv w w2 a2 c2 (lstK s i ++ [pe s i])) := hV3
      have hn : RowKit.Hid (n = (lstK s i).length) := hi.out.2
      clear hgo hln LA kA hA hV hbd hix hin hi
      generalize strOfNums (pe s i).nm = xs at *
      generalize (pe s i).f = f at *
      by_cases cn : 0 < (pe s i).n
      · have hl : RowKit.Hid (lstK s (i + 1) = lstK s i ++ [pe s i]) := hT.out cn
        generalize (pe s i).n = nn at *
        clear hb hT hU hV2
        go_upto_region 5 with fail
        generalize wr.alloc (.cells #[.string xs, .int .i64 f, .int .i64 nn] 53) = w4 at *
        generalize wr.heap.size = g at *
        go_wp2_with (first | (guard_target =~ wpList _ _ _ (Oper.mk _ (Op.load 53 _) _ _ _ _ :: _) _ _; refine wpList_load_run (by rfl) 53 (.tmp 5) rfl (by rfl) hl3 ?_) | (at_builtin; refine wpList_append_text rfl (.tmp 16) (.tmp 18) 49 49 rfl (by rfl) (by rfl) hap ?_))
        go_roundw
        case rel => exact ⟨i + 1, a2, c2, n + 1, rfl, rfl, ⟨by omega, by rw [hl.out, hn.out, List.length_append]; rfl⟩, by rw [hl.out]; exact hV3⟩
        case measure => simp [intOf]; omega
      · have hl : RowKit.Hid (lstK s (i + 1) = lstK s i) := hU.out cn
        generalize (pe s i).n = nn at *
        clear hb hT hU hV3 hap hl3
        go_upto_region 5 with fail
        generalize wr.alloc (.cells #[.string xs, .int .i64 f, .int .i64 nn] 53) = w4 at *
        generalize wr.heap.size = g at *
        go_wp2_with fail
        go_roundw
        case rel => exact ⟨i + 1, a, c, n, rfl, rfl, ⟨by omega, by rw [hl.out, hn.out]⟩, by rw [hl.out]; exact hV2⟩
        case measure => simp [intOf]; omega
end Tg
end Go.Proofs.YtjgnajopomadpaaGreat
namespace Go.Proofs.YtjgnajopomadpaaGreat
open Go.ChangeShapes Go.WideShapes Go.ChangeAt Go.RowKit
namespace Tg
open Qm Crc
def anotherS (s : Nat → Option En) (nm nt : ByteArray) : Int × Int := match volOf (lst s) nm with
  | none => (0, 4)
  | some x => if goodS (bs nt) = false then (0, 1) else if (volOf (lst s) nt).isSome then (0, 8) else (x.i, 0)
theorem fnd_bd (ts : Nat → Bool) : feF ts 8 = -1 ∨ ∃ j : Nat, feF ts 8 = j ∧ j < 8 := by
  rcases feF_or ts 8 (Nat.le_refl _) with ⟨h1, -⟩ | ⟨j, h1, -, h3, -⟩
  · exact Or.inl h1
  · exact Or.inr ⟨j, h1, h3⟩
set_option maxRecDepth 100000 in
set_option maxHeartbeats 1000000 in
theorem another_any {w : World} {q p N : Nat} {s : Nat → Option En} (h : Vst w q p N s) (sp : Sp N s) (nm nt : ByteArray) (hnt : nt.size ≤ 9223372036854775807) :
    Calls Tryz.prog 37 #[Ptr q, .string nm, .string nt] w fun e w' => e = .returned (.tuple #[.int .i64 (anotherS s nm nt).1, .int .i64 (anotherS s nm nt).2]) ∧ Keep (fun _ => False) w w' := by
  have h1 := find_any h nm
  have h2 : RowKit.Hid (∀ w', Keep (fun _ => False) w w' → Calls Tryz.prog 33 #[Ptr q, .string nt] w' fun e w'' => e = .returned (.int .i64 (feF (fun i => !hitB s nt i) 8)) ∧ Keep (fun _ => False) w' w'') := fun w' k => find_any (h.keep k (fun e => e)) nt
  have hg := good_any nt hnt
  obtain ⟨a, ha⟩ : ∃ a, a = (anotherS s nm nt).1 := ⟨_, rfl⟩
  obtain ⟨b, hb⟩ : ∃ b, b = (anotherS s nm nt).2 := ⟨_, rfl⟩
  have hab : RowKit.Hid ((a, b) = anotherS s nm nt) := by show _ = _; rw [ha, hb]
  rw [← ha, ← hb]
  have hc1 := fnd_or sp nm
  have hc2 := fnd_or sp nt
  unfold anotherS at hab
  generalize goodS (bs nt) = G at *
  generalize feF (fun i => !hitB s nm i) 8 = m1 at *
  generalize feF (fun i => !hitB s nt i) 8 = m2 at *
  clear ha hb h sp hnt
  go_enter Tryz.func37, Tryz.ntmps37
  go_wp2_with fail
  refine h1.mono ?_
  rintro e w1 ⟨rfl, k1⟩
  have K1 : RowKit.Hid (Keep (fun _ => False) w w1) := k1
  clear h1 k1
  rcases hc1 with ⟨hm, hv⟩ | ⟨i, x, hm, hi, hx, hn, hxi, hv⟩
  · subst hm
    rw [hv] at hab
    have e1 : RowKit.Hid (a = 0) := congrArg Prod.fst hab.out
    have e2 : RowKit.Hid (b = 4) := congrArg Prod.snd hab.out
    clear hab hc2 h2 hg
    go_wp2_with fail
    exact bodyPost_ret (results_tmp2 rfl _ _ _) rfl ⟨by rw [e1.out, e2.out]; rfl, K1⟩
  · subst hm
    rw [hv] at hab
    have hi0 : ¬ (i : Int) < 0 := by omega
    have hg1 := hg w1
    clear hg
    go_wp2_with fail
    refine hg1.mono ?_
    rintro e w2 ⟨rfl, k2⟩
    have K2 : RowKit.Hid (Keep (fun _ => False) w w2) := K1.out.trans k2
    have h3 := h2.out w2 K2.out
    clear hg1 k2 h2
    cases G with
    | false =>
      have e1 : RowKit.Hid (a = 0) := congrArg Prod.fst hab.out
      have e2 : RowKit.Hid (b = 1) := congrArg Prod.snd hab.out
      clear hab hc2 h3
      go_wp2_with fail
      exact bodyPost_ret (results_tmp2 rfl _ _ _) rfl ⟨by rw [e1.out, e2.out]; rfl, K2⟩
    | true =>
      go_wp2_with fail
      refine h3.mono ?_
      rintro e w3 ⟨rfl, k3⟩
      have K3 : RowKit.Hid (Keep (fun _ => False) w w3) := K2.out.trans k3
      clear h3 k3
      rcases hc2 with ⟨hm2, hv2⟩ | ⟨i2, x2, hm2, hi2, hx2, hn2, hxi2, hv2⟩
      · subst hm2
        rw [hv2] at hab
        have e1 : RowKit.Hid (a = i) := by
          have : a = x.i := congrArg Prod.fst hab.out
          show a = _
          rw [this, hxi]
        have e2 : RowKit.Hid (b = 0) := congrArg Prod.snd hab.out
        clear hab
        go_wp2_with fail
        exact bodyPost_ret (results_tmp2 rfl _ _ _) rfl ⟨by rw [e1.out, e2.out]; rfl, K3⟩
      · subst hm2
        rw [hv2] at hab
        have e1 : RowKit.Hid (a = 0) := congrArg Prod.fst hab.out
        have e2 : RowKit.Hid (b = 8) := congrArg Prod.snd hab.out
        have hi20 : (0 : Int) ≤ (i2 : Int) := by omega
        clear hab
        go_wp2_with fail
        exact bodyPost_ret (results_tmp2 rfl _ _ _) rfl ⟨by rw [e1.out, e2.out]; rfl, K3⟩
set_option maxRecDepth 100000 in
set_option maxHeartbeats 1000000 in
theorem locate_any {w : World} {q p N : Nat} {s : Nat → Option En} (h : Vst w q p N s) (sp : Sp N s) (nm : ByteArray) (at' n : Int) (ha : I64 at') (hn : I64 n) :
    Calls Tryz.prog 36 #[Ptr q, .string nm, .int .i64 at', .int .i64 n] w fun e w' => e = .returned (.tuple #[.int .i64 (placeS s nm at' n).1, .int .i64 (placeS s nm at' n).2]) ∧ Keep (fun _ => False) w w' := by
  have h1 := find_any h nm
  obtain ⟨a, hfa⟩ : ∃ a, a = (placeS s nm at' n).1 := ⟨_, rfl⟩
  obtain ⟨b, hfb⟩ : ∃ b, b = (placeS s nm at' n).2 := ⟨_, rfl⟩
  have hab : RowKit.Hid ((a, b) = placeS s nm at' n) := by show _ = _; rw [hfa, hfb]
  rw [← hfa, ← hfb]
  have hc1 := fnd_or sp nm
  have hV : RowKit.Hid (Vst w q p N s) := h
  unfold placeS at hab
  unfold I64 at ha hn
  generalize feF (fun i => !hitB s nm i) 8 = m1 at *
  clear hfa hfb h
  go_enter Tryz.func36, Tryz.ntmps36
  go_wp2_with fail
  refine h1.mono ?_
  rintro e w1 ⟨rfl, k1⟩
  have K1 : RowKit.Hid (Keep (fun _ => False) w w1) := k1
  clear h1 k1
  rcases hc1 with ⟨hm, hv⟩ | ⟨i, x, hm, hi, hx, hnm, hxi, hv⟩
  · subst hm
    rw [hv] at hab
    have e1 : RowKit.Hid (a = 0) := congrArg Prod.fst hab.out
    have e2 : RowKit.Hid (b = 4) := congrArg Prod.snd hab.out
    clear hab hV
    go_wp2_with fail
    exact bodyPost_ret (results_tmp2 rfl _ _ _) rfl ⟨by rw [e1.out, e2.out]; rfl, K1⟩
  · subst hm
    rw [hv] at hab
    have hi0 : ¬ (i : Int) < 0 := by omega
    have hi1 : (0 : Int) ≤ (i : Int) := by omega
    have hi8 : (i : Int) < 8 := by omega
    have hst := stC_at (hV.out.keep K1.out (fun e => e)).blk hi
    rw [pe_some hx] at hst
    obtain ⟨-, z1, z2⟩ := hst
    have hok := hV.out.ok i x hi hx
    have hN := hV.out.N9
    have hf := hok.f; have hnn := hok.n; have hfn := hok.fn
    have hab2 : RowKit.Hid ((a, b) = if okR x.n at' n then (x.f + at', 0) else (0, 1)) := hab
    clear hab hV hx hnm hxi hv hok
    generalize x.f = xf at *
    generalize x.n = xn at *
    by_cases c1 : at' < 0
    · have hk : okR xn at' n = false := by
        rw [← Bool.not_eq_true, okR_iff]; omega
      rw [hk] at hab2
      have e1 : RowKit.Hid (a = 0) := congrArg Prod.fst hab2.out
      have e2 : RowKit.Hid (b = 1) := congrArg Prod.snd hab2.out
      clear hab2 hk
      go_wp2_with fail
      exact bodyPost_ret (results_tmp2 rfl _ _ _) rfl ⟨by rw [e1.out, e2.out]; rfl, K1⟩
    · by_cases c2 : n < 1
      · have hk : okR xn at' n = false := by
          rw [← Bool.not_eq_true, okR_iff]; omega
        rw [hk] at hab2
        have e1 : RowKit.Hid (a = 0) := congrArg Prod.fst hab2.out
        have e2 : RowKit.Hid (b = 1) := congrArg Prod.snd hab2.out
        clear hab2 hk
        go_wp2_with fail
        exact bodyPost_ret (results_tmp2 rfl _ _ _) rfl ⟨by rw [e1.out, e2.out]; rfl, K1⟩
      · have hw : IntKind.i64.wrap (xn - at') = xn - at' := wrapI (by omega) (by omega)
        by_cases c3 : xn - at' < n
        · have hk : okR xn at' n = false := by
            rw [← Bool.not_eq_true, okR_iff]; omega
          rw [hk] at hab2
          have e1 : RowKit.Hid (a = 0) := congrArg Prod.fst hab2.out
          have e2 : RowKit.Hid (b = 1) := congrArg Prod.snd hab2.out
          clear hab2 hk
          go_wp2_with fail
          exact bodyPost_ret (results_tmp2 rfl _ _ _) rfl ⟨by rw [e1.out, e2.out]; rfl, K1⟩
        · have hk : okR xn at' n = true := by
            rw [okR_iff]; omega
          rw [hk] at hab2
          have e1 : RowKit.Hid (a = xf + at') := congrArg Prod.fst hab2.out
          have e2 : RowKit.Hid (b = 0) := congrArg Prod.snd hab2.out
          have hw2 : IntKind.i64.wrap (xf + at') = xf + at' := wrapI (by omega) (by omega)
          clear hab2 hk
          go_wp2_with fail
          exact bodyPost_ret (results_tmp2 rfl _ _ _) rfl ⟨by rw [e1.out, e2.out]; rfl, K1⟩
/-- A store and its disk in memory. -/
structure Sv (w : World) (q p g cap N : Nat) (l : List Int) (s : Nat → Option En) : Prop where
  arr : Arr w p g cap l
  vst : Vst w q p N s
  qp : q ≠ p
  qg : q ≠ g
  len : l.length = N * 32
theorem Sv.keep {T : Nat → Prop} {w w' : World} {q p g cap N : Nat} {l : List Int} {s : Nat → Option En} (h : Sv w q p g cap N l s) (k : Keep T w w') (h1 : ¬ T q) (h2 : ¬ T p) (h3 : ¬ T g) : Sv w' q p g cap N l s :=
  ⟨h.arr.keep k h2 h3, h.vst.keep k h1, h.qp, h.qg, h.len⟩
theorem Sv.disk {w : World} {q p g cap N : Nat} {l : List Int} {s : Nat → Option En} (h : Sv w q p g cap N l s) : w.cell? ⟨q, 0, none⟩ = some (dk p) := (h.vst.blk 0 (by omega)).1
end Tg
end Go.Proofs.YtjgnajopomadpaaGreat
