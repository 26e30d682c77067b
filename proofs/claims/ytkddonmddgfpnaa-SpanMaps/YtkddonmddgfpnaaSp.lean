/-
  Either map in memory, as one: which kind it is, what a change of it leaves, what it tells.
-/
import Derived.Test.YtkddonmddgfpnaaTh
import Derived.Test.YtkddonmddgfpnaaSpanM
namespace Go.Proofs.Ytkddonmddgfpnaa
open Go.ChangeShapes Go.WideShapes Go.ChangeAt Go.RowKit
namespace Tg

/-- What lies where: a map of runs over its four blocks, or a flat one; none of its blocks is one of T. -/
def Lies (W w : World) (S T : Nat → Prop) (q N C : Nat) (t : List Int) : Bool → Prop
  | false => ∃ b p k m, S = Own3 b p k ∧ Mp W w q b p k N C m ∧ Of t m ∧ ¬ T q ∧ ¬ T b ∧ ¬ T p ∧ ¬ T k
  | true => S = (fun x => x = q) ∧ Fm (fun x => W.heap.size ≤ x ∧ ¬ T x) w q N C t
/-- Either map, made since W: its entries t, at most N runs, C sectors; S: the blocks that a change writes; T: blocks that another one writes. -/
structure Sp (W w : World) (fl : Bool) (q : Nat) (S T : Nat → Prop) (N C : Nat) (t : List Int) : Prop where
  low : Low t
  tl : t.length = C
  tab : Tab t
  cap1 : 1 ≤ C
  cap2 : C ≤ 512
  N1 : 1 ≤ N
  N2 : N ≤ 512
  len : (refR t C).length ≤ N
  keep : Keep (fun _ => False) W w
  sw : ∀ x, S x → W.heap.size ≤ x ∧ x < w.heap.size ∧ ¬ T x
  tw : ∀ x, T x → x < w.heap.size
  ex : Lies W w S T q N C t fl

theorem Sp.other {W w w' : World} {fl : Bool} {q : Nat} {S T : Nat → Prop} {N C : Nat} {t : List Int} (h : Sp W w fl q S T N C t) (k : Keep T w w') (hT : ∀ x, T x → W.heap.size ≤ x) : Sp W w' fl q S T N C t := by
  refine ⟨h.low, h.tl, h.tab, h.cap1, h.cap2, h.N1, h.N2, h.len, h.keep.next k (fun x hx e => by have := hT x e; omega), fun x hx => ⟨(h.sw x hx).1, Nat.lt_of_lt_of_le (h.sw x hx).2.1 k.size, (h.sw x hx).2.2⟩, fun x hx => Nat.lt_of_lt_of_le (h.tw x hx) k.size, ?_⟩
  have hx := h.ex
  cases fl with
  | false =>
    obtain ⟨b, p, kk, m, e, hM, ho, t1, t2, t3, t4⟩ := hx
    exact ⟨b, p, kk, m, e, hM.other k hT t1 t2 t3 t4, ho, t1, t2, t3, t4⟩
  | true => exact ⟨hx.1, hx.2.other k (fun x e c => c.2 e)⟩
theorem Sp.more {W w w' : World} {fl : Bool} {q : Nat} {S T : Nat → Prop} {N C : Nat} {t : List Int} (h : Sp W w fl q S T N C t) (k : Keep (fun _ => False) w w') : Sp W w' fl q S T N C t := by
  refine ⟨h.low, h.tl, h.tab, h.cap1, h.cap2, h.N1, h.N2, h.len, h.keep.trans k, fun x hx => ⟨(h.sw x hx).1, Nat.lt_of_lt_of_le (h.sw x hx).2.1 k.size, (h.sw x hx).2.2⟩, fun x hx => Nat.lt_of_lt_of_le (h.tw x hx) k.size, ?_⟩
  have hx := h.ex
  cases fl with
  | false =>
    obtain ⟨b, p, kk, m, e, hM, ho, t1⟩ := hx
    exact ⟨b, p, kk, m, e, hM.more k, ho, t1⟩
  | true => exact ⟨hx.1, hx.2.more k⟩
/-- Made since an elder world. -/
theorem Sp.older {W0 W w : World} {fl : Bool} {q : Nat} {S T : Nat → Prop} {N C : Nat} {t : List Int} (h : Sp W w fl q S T N C t) (k : Keep (fun _ => False) W0 W) : Sp W0 w fl q S T N C t := by
  have hs := k.size
  refine ⟨h.low, h.tl, h.tab, h.cap1, h.cap2, h.N1, h.N2, h.len, k.trans h.keep, fun x hx => ⟨by have := (h.sw x hx).1; omega, (h.sw x hx).2⟩, h.tw, ?_⟩
  have hx := h.ex
  cases fl with
  | false =>
    obtain ⟨b, p, kk, m, e, hM, ho, t1⟩ := hx
    exact ⟨b, p, kk, m, e, hM.older k, ho, t1⟩
  | true => exact ⟨hx.1, hx.2.among (fun x _ c => ⟨by omega, c.2⟩) (fun x hx' => ⟨by have := h.keep.size; omega, fun e => by have := h.tw x e; omega⟩)⟩
/-- Blocks made since are none of a flat map's. -/
theorem Fm.shun {B T' : Nat → Prop} {w w' : World} {q N C : Nat} {t : List Int} (h : Fm B w q N C t) (k : Keep (fun _ => False) w w') (hT : ∀ x, T' x → w.heap.size ≤ x ∧ x < w'.heap.size) : Fm (fun x => B x ∧ ¬ T' x) w' q N C t := by
  have hq := h.lt
  have h' := h.more k
  obtain ⟨a, c, hb, hi, hg⟩ := h.ex
  exact ⟨⟨a, c, hb.keep k (fun e => e), hi.keep k (fun g e s => s), fun g e => ⟨⟨(hg g e).1, fun x => by have := (hT _ x).1; have := (hg g e).2.2; omega⟩, (hg g e).2.1, by have := (hg g e).2.2; have := k.size; omega⟩⟩, ⟨h.bq, fun x => by have := (hT _ x).1; omega⟩, fun x hx => ⟨h'.up x hx, fun e => by have := (hT _ e).2; omega⟩, h.tl, h.tab, h.cap1, h.cap2, h.N1, h.N2, h.len⟩
/-- Blocks made since are none of its own. -/
theorem Sp.shun {W w w' : World} {fl : Bool} {q : Nat} {S : Nat → Prop} {N C : Nat} {t : List Int} {T' : Nat → Prop} (h : Sp W w fl q S (fun _ => False) N C t) (k : Keep (fun _ => False) w w') (hT : ∀ x, T' x → w.heap.size ≤ x ∧ x < w'.heap.size) : Sp W w' fl q S T' N C t := by
  have h' := h.more k
  refine ⟨h.low, h.tl, h.tab, h.cap1, h.cap2, h.N1, h.N2, h.len, h'.keep, fun x hx => ⟨(h.sw x hx).1, (h'.sw x hx).2.1, fun e => by have := (h.sw x hx).2.1; have := (hT x e).1; omega⟩, fun x hx => (hT x hx).2, ?_⟩
  have hx := h.ex
  have hk := k.size
  cases fl with
  | false =>
    obtain ⟨b, p, kk, m, e, hM, ho, -⟩ := hx
    have hl := hM.lt
    exact ⟨b, p, kk, m, e, hM.more k, ho, fun e => by have := (hT _ e).1; omega, fun e => by have := (hT _ e).1; omega, fun e => by have := (hT _ e).1; omega, fun e => by have := (hT _ e).1; omega⟩
  | true =>
    exact ⟨hx.1, (hx.2.shun k hT).among (fun x _ c => ⟨c.1.1, c.2⟩) (fun x hx2 => ⟨by have := h'.keep.size; omega, fun e => by have := (hT x e).2; omega⟩)⟩
/-- It is as it was, behind a call that writes its own blocks alone, for another one that shuns them. -/
theorem Sp.len512 {W w : World} {fl : Bool} {q : Nat} {S T : Nat → Prop} {N C : Nat} {t : List Int} (h : Sp W w fl q S T N C t) : (refR t C).length ≤ 512 := by have := h.len; have := h.N2; omega

/-- Behind a change of a map of runs. -/
theorem Sp.did {W w w' : World} {q b p k N C : Nat} {T : Nat → Prop} {t u : List Int} {m' : List Rn} {e : Ending} (h : Sp W w false q (Own3 b p k) T N C t) (tt : ¬ T q ∧ ¬ T b ∧ ¬ T p ∧ ¬ T k) (hul : u.length = C) (hut : Tab u) (hulow : Low u) (ho : Of u m') (hD : Did W w q b p k N C m' e w') :
    ∃ r, e = .returned (.int .i64 r) ∧ (r = 0 ∧ (refR u C).length ≤ N ∧ Sp W w' false q (Own3 b p k) T N C u ∨ r = 5 ∧ N < (refR u C).length ∧ Sp W w' false q (Own3 b p k) T N C t) ∧ Keep (Own3 b p k) w w' := by
  have hE : refR u C = m' := by rw [← hul]; exact ho.runs.symm
  rcases hD with ⟨h1, rfl, hM, hk⟩ | ⟨h1, rfl, hk⟩
  · refine ⟨0, rfl, Or.inl ⟨rfl, by rw [hE]; exact h1, hulow, hul, hut, h.cap1, h.cap2, h.N1, h.N2, by rw [hE]; exact h1, hM.keep, fun x hx => ⟨(h.sw x hx).1, Nat.lt_of_lt_of_le (h.sw x hx).2.1 hk.size, (h.sw x hx).2.2⟩, fun x hx => Nat.lt_of_lt_of_le (h.tw x hx) hk.size, b, p, k, m', rfl, hM, ho, tt⟩, hk⟩
  · exact ⟨5, rfl, Or.inr ⟨rfl, by rw [hE]; exact h1, h.more hk⟩, hk.mono (fun _ _ e => e.elim)⟩
/-- Behind a change of a flat map. -/
theorem Sp.fid {W w w' : World} {q N C : Nat} {T : Nat → Prop} {t u : List Int} {e : Ending} (h : Sp W w true q (fun x => x = q) T N C t) (hul : u.length = C) (hut : Tab u) (hulow : Low u) (hD : Fid (fun x => W.heap.size ≤ x ∧ ¬ T x) w q N C u e w') :
    ∃ r, e = .returned (.int .i64 r) ∧ (r = 0 ∧ (refR u C).length ≤ N ∧ Sp W w' true q (fun x => x = q) T N C u ∨ r = 5 ∧ N < (refR u C).length ∧ Sp W w' true q (fun x => x = q) T N C t) ∧ Keep (fun x => x = q) w w' := by
  rcases hD with ⟨h1, rfl, hM, hk⟩ | ⟨h1, rfl, hk⟩
  · refine ⟨0, rfl, Or.inl ⟨rfl, h1, hulow, hul, hut, h.cap1, h.cap2, h.N1, h.N2, h1, h.keep.next hk (fun x hx e => by have := (h.sw x e).1; omega), fun x hx => ⟨(h.sw x hx).1, Nat.lt_of_lt_of_le (h.sw x hx).2.1 hk.size, (h.sw x hx).2.2⟩, fun x hx => Nat.lt_of_lt_of_le (h.tw x hx) hk.size, rfl, hM⟩, hk⟩
  · exact ⟨5, rfl, Or.inr ⟨rfl, h1, h.more hk⟩, hk.mono (fun _ _ e => e.elim)⟩
/-- What a change leaves: the entries that the mathematics tells, and its code. -/
def Chd (W w : World) (fl : Bool) (q : Nat) (S T : Nat → Prop) (N C : Nat) (y : List Int × Int) (e : Ending) (w' : World) : Prop :=
  e = .returned (.int .i64 y.2) ∧ Sp W w' fl q S T N C y.1 ∧ Keep S w w'
theorem Sp.step {W w w' : World} {fl : Bool} {q N C : Nat} {S T : Nat → Prop} {t : List Int} {x : Rn} (htl : t.length = C) (hc : CanDo C x) {e : Ending}
    (h : ∃ r, e = .returned (.int .i64 r) ∧ (r = 0 ∧ (refR (putN t x.lba.toNat x.phys x.len.toNat) C).length ≤ N ∧ Sp W w' fl q S T N C (putN t x.lba.toNat x.phys x.len.toNat) ∨ r = 5 ∧ N < (refR (putN t x.lba.toNat x.phys x.len.toNat) C).length ∧ Sp W w' fl q S T N C t) ∧ Keep S w w') : Chd W w fl q S T N C (stepL N t x) e w' := by
  obtain ⟨r, rfl, h1, h2⟩ := h
  unfold Chd stepL
  rw [htl, if_pos hc]
  rcases h1 with ⟨rfl, h3, h4⟩ | ⟨rfl, h3, h4⟩
  · rw [if_pos h3]; exact ⟨rfl, h4, h2⟩
  · rw [if_neg (by omega)]; exact ⟨rfl, h4, h2⟩
theorem no_do {C : Nat} {x : Rn} (h : ¬ CanDo C x) : okR (C : Int) x.lba x.len = false ∨ (x.phys < -1 ∨ 1048576 < x.phys) := by
  unfold CanDo at h
  cases c : okR (C : Int) x.lba x.len with
  | false => exact Or.inl rfl
  | true =>
    obtain ⟨c1, c2, c3⟩ := okR_iff.1 c
    right
    omega

/-- The number of the method that sets, by the kind. -/
def fSet : Bool → FuncId | false => 46 | true => 117
def fClear : Bool → FuncId | false => 107 | true => 111
def fRuns : Bool → FuncId | false => 21 | true => 116
def fCap : Bool → FuncId | false => 106 | true => 110
def fMost : Bool → FuncId | false => 61 | true => 114

theorem Sp.set_no {W w : World} {fl : Bool} {q N C : Nat} {S T : Nat → Prop} {t : List Int} (h : Sp W w fl q S T N C t) {lba n phys : Int} (hl : lba ≤ 9223372036854775807) (hno : okR (C : Int) lba n = false ∨ phys < 0 ∨ 1048576 < phys) :
    Calls Try.prog (fSet fl) #[.pointer (some ⟨q, 0, none⟩), .int .i64 lba, .int .i64 n, .int .i64 phys] w (Chd W w fl q S T N C (t, 1)) := by
  have hx := h.ex
  cases fl with
  | false =>
    obtain ⟨b, p, k, m, rfl, hM, ho, tt⟩ := hx
    refine (Tg.set_no hM hl hno).mono ?_
    rintro e w' ⟨rfl, hk⟩
    exact ⟨rfl, h.more hk, hk.mono (fun _ _ e => e.elim)⟩
  | true =>
    refine (fset_no hx.2 hl hno).mono ?_
    rintro e w' ⟨rfl, rfl⟩
    exact ⟨rfl, h, Keep.refl _ _⟩
theorem Sp.clear_no {W w : World} {fl : Bool} {q N C : Nat} {S T : Nat → Prop} {t : List Int} (h : Sp W w fl q S T N C t) {lba n : Int} (hl : lba ≤ 9223372036854775807) (hno : okR (C : Int) lba n = false) :
    Calls Try.prog (fClear fl) #[.pointer (some ⟨q, 0, none⟩), .int .i64 lba, .int .i64 n] w (Chd W w fl q S T N C (t, 1)) := by
  have hx := h.ex
  cases fl with
  | false =>
    obtain ⟨b, p, k, m, rfl, hM, ho, tt⟩ := hx
    refine (Tg.clear_no hM hl hno).mono ?_
    rintro e w' ⟨rfl, hk⟩
    exact ⟨rfl, h.more hk, hk.mono (fun _ _ e => e.elim)⟩
  | true =>
    refine (fclear_no hx.2 hl hno).mono ?_
    rintro e w' ⟨rfl, rfl⟩
    exact ⟨rfl, h, Keep.refl _ _⟩
/-- A range set to pages: what the mathematics tells. -/
theorem Sp.set {W w : World} {fl : Bool} {q N C : Nat} {S T : Nat → Prop} {t : List Int} (h : Sp W w fl q S T N C t) {x : Rn} (hl : x.lba ≤ 9223372036854775807) (hp : x.phys ≠ -1) :
    Calls Try.prog (fSet fl) #[.pointer (some ⟨q, 0, none⟩), .int .i64 x.lba, .int .i64 x.len, .int .i64 x.phys] w (Chd W w fl q S T N C (stepL N t x)) := by
  have htl := h.tl
  by_cases hc : CanDo C x
  · obtain ⟨n1, n2, n3, n4⟩ := canDo_nat hc
    have hc' := hc
    unfold CanDo at hc
    have hlen : (putN t x.lba.toNat x.phys x.len.toNat).length = C := by rw [putN_len]; exact htl
    have htab : Tab (putN t x.lba.toNat x.phys x.len.toNat) := putN_tab h.tab (by omega) (by have := h.cap2; omega) (by omega)
    have hlow : Low (putN t x.lba.toNat x.phys x.len.toNat) := h.low.put (by omega) (by omega)
    have hx := h.ex
    cases fl with
    | false =>
      obtain ⟨b, p, k, m, rfl, hM, ho, tt⟩ := hx
      have ho2 := ho.set (lba := x.lba.toNat) (n := x.len.toNat) (phys := x.phys) n4 (by omega) (by omega)
      rw [n2, n3] at ho2
      refine (set_map hM (r := x) (by omega) (by omega) (by omega) (by omega) (by omega)).mono ?_
      intro e w' hD
      exact Sp.step htl hc' (h.did tt hlen htab hlow ho2 hD)
    | true =>
      obtain ⟨rfl, hF⟩ := hx
      have := fset hF (L := x.lba.toNat) (M := x.len.toNat) (phys := x.phys) n4 (by omega) (by omega) (by omega)
      rw [n2, n3] at this
      refine this.mono ?_
      intro e w' hD
      exact Sp.step htl hc' (h.fid hlen htab hlow hD)
  · have hno := no_do hc
    have : stepL N t x = (t, 1) := by unfold stepL; rw [htl, if_neg hc]
    rw [this]
    exact h.set_no hl (hno.imp id (fun e => by omega))
/-- A range cleared. -/
theorem Sp.clear {W w : World} {fl : Bool} {q N C : Nat} {S T : Nat → Prop} {t : List Int} (h : Sp W w fl q S T N C t) {lba n : Int} (hl : lba ≤ 9223372036854775807) :
    Calls Try.prog (fClear fl) #[.pointer (some ⟨q, 0, none⟩), .int .i64 lba, .int .i64 n] w (Chd W w fl q S T N C (stepL N t ⟨lba, n, -1⟩)) := by
  have htl := h.tl
  by_cases hc : CanDo C ⟨lba, n, -1⟩
  · obtain ⟨n1, n2, n3, n4⟩ := canDo_nat hc
    have hc' := hc
    unfold CanDo at hc
    simp only at n1 n2 n3 n4 hc
    have hlen : (putN t lba.toNat (-1) n.toNat).length = C := by rw [putN_len]; exact htl
    have htab : Tab (putN t lba.toNat (-1) n.toNat) := putN_tab h.tab (by omega) (by have := h.cap2; omega) (by omega)
    have hlow : Low (putN t lba.toNat (-1) n.toNat) := h.low.put (by omega) (by omega)
    have hx := h.ex
    cases fl with
    | false =>
      obtain ⟨b, p, k, m, rfl, hM, ho, tt⟩ := hx
      have ho2 := ho.clear (lba := lba.toNat) (n := n.toNat) (phys := -1) n4 (by omega) (by omega)
      rw [n2, n3] at ho2
      refine (clear_map hM (lba := lba) (n := n) (by omega) (by omega) (by omega)).mono ?_
      intro e w' hD
      exact Sp.step htl hc' (h.did tt hlen htab hlow ho2 hD)
    | true =>
      obtain ⟨rfl, hF⟩ := hx
      have := fclear hF (L := lba.toNat) (M := n.toNat) n4 (by omega)
      rw [n2, n3] at this
      refine this.mono ?_
      intro e w' hD
      exact Sp.step htl hc' (h.fid hlen htab hlow hD)
  · have hno : okR (C : Int) lba n = false := by
      rcases no_do hc with h1 | h1
      · exact h1
      · simp only at h1; omega
    have : stepL N t ⟨lba, n, -1⟩ = (t, 1) := by unfold stepL; rw [htl, if_neg hc]
    rw [this]
    exact h.clear_no hl hno
/-- Its runs, in a row made since. -/
theorem Sp.runs {W w : World} {fl : Bool} {q N C : Nat} {S T : Nat → Prop} {t : List Int} (h : Sp W w fl q S T N C t) :
    Calls Try.prog (fRuns fl) #[.pointer (some ⟨q, 0, none⟩)] w fun e w' => ∃ a c, e = .returned (.slice a (refR t C).length c) ∧ Rs w' a c (refR t C) ∧ Keep (fun _ => False) w w' ∧ ∀ g, a = some ⟨g, 0, none⟩ → w.heap.size ≤ g := by
  have hx := h.ex
  have hl := h.len512
  cases fl with
  | false =>
    obtain ⟨b, p, k, m, rfl, hM, ho, tt⟩ := hx
    have hE : refR t C = m := by rw [← h.tl]; exact ho.runs.symm
    rw [hE] at hl ⊢
    refine (runs_any hM).mono ?_
    rintro e w' ⟨rfl, R, hk⟩
    exact ⟨_, _, rfl, R.rs (by omega), hk, fun g e => by
      injection e with e; injection e with e
      subst e
      exact Nat.le_refl _⟩
  | true =>
    refine (fruns hx.2).mono ?_
    rintro e w' ⟨a, c, rfl, R⟩
    exact ⟨a, c, rfl, R.rs, R.keep, fun g e => (R.block e).1⟩
set_option maxRecDepth 100000 in
theorem capa_any {w wr : World} {q b p k N cap : Nat} {m : List Rn} (h : Mp w wr q b p k N cap m) :
    Calls Try.prog 106 #[.pointer (some ⟨q, 0, none⟩)] wr fun e w' => e = .returned (.int .i64 (cap : Int)) ∧ w' = wr := by
  obtain ⟨t0, -, -⟩ := h.tops
  clear h
  go_enter Try.func106, Try.ntmps106
  go_wp2_with fail
  go_ret
  exact ⟨rfl, rfl⟩
theorem Sp.cap {W w : World} {fl : Bool} {q N C : Nat} {S T : Nat → Prop} {t : List Int} (h : Sp W w fl q S T N C t) :
    Calls Try.prog (fCap fl) #[.pointer (some ⟨q, 0, none⟩)] w fun e w' => e = .returned (.int .i64 (C : Int)) ∧ w' = w := by
  have hx := h.ex
  cases fl with
  | false =>
    obtain ⟨b, p, k, m, rfl, hM, ho, tt⟩ := hx
    exact capa_any hM
  | true => exact fcap hx.2
theorem Sp.most {W w : World} {fl : Bool} {q N C : Nat} {S T : Nat → Prop} {t : List Int} (h : Sp W w fl q S T N C t) :
    Calls Try.prog (fMost fl) #[.pointer (some ⟨q, 0, none⟩)] w fun e w' => e = .returned (.int .i64 (N : Int)) ∧ w' = w := by
  have hx := h.ex
  cases fl with
  | false =>
    obtain ⟨b, p, k, m, rfl, hM, ho, tt⟩ := hx
    exact most_any hM
  | true => exact fmost hx.2
end Tg
end Go.Proofs.Ytkddonmddgfpnaa
