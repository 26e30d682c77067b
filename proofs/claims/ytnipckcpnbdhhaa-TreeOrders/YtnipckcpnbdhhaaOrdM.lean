/-
  What the statement TreeOrders leans on: rows of numbers as arguments; what a tree has, told as a set; two trees that have the same tell the same.
-/
import Derived.Test.YtnipckcpnbdhhaaHigh
namespace Go.Proofs.Ytnipckcpnbdhhaa
open Go.ChangeShapes Go.WideShapes Go.ChangeAt Go.RowKit
namespace Tg

theorem bytes3 : Try.prog.bytesOf 3 = 8 := by kernel_rfl
/-- A row of ints in memory. -/
def Nums (w : World) (a : Option Addr) (len cap : Nat) (l : List Int) : Prop :=
  l.length = len ∧ len ≤ cap ∧ cap ≤ 9223372036854775807 ∧ (len = 0 ∨ ∃ b o, a = some ⟨b, o, none⟩ ∧ ∀ i, i < len → w.cell? ⟨b, o + i, none⟩ = some (.int .i64 (l.getD i 0)))
theorem Nums.keep {S : Nat → Prop} {w w' : World} {a : Option Addr} {len cap : Nat} {l : List Int} (h : Nums w a len cap l) (k : Keep S w w') (hs : ∀ b o, a = some ⟨b, o, none⟩ → ¬ S b) : Nums w' a len cap l := by
  obtain ⟨h1, h2, h3, h5⟩ := h
  refine ⟨h1, h2, h3, h5.imp id ?_⟩
  rintro ⟨b, o, rfl, hc⟩
  refine ⟨b, o, rfl, fun i hi => ?_⟩
  have := hc i hi
  rw [← this]
  exact World.cell?_of_block (w := w) (a := ⟨b, o + i, none⟩) (k.block b (World.block_lt_of_cell? w _ this) (hs b o rfl))
theorem open_nums {H : Type} {enc : TypeId × Value → H} {W : World} {a : Option Addr} {len cap : Nat} {d : DataW H} {p : List MemPlace}
    (h : DataW.Trod enc Try.prog W 0 (fun _ => true) true 52 (.slice a len cap) d p) :
    ∃ l, Nums W a len cap l ∧ ((d = .nil ∧ len = 0) ∨ ∃ el sp, d = .slice el sp ∧ el.length = len ∧ el.length + sp.length = cap) := by
  obtain ⟨fuel, hf⟩ := h
  rcases open_ints Try.underlying52 Try.underlying3 (by kernel_rfl) hf with ⟨hcs, hx⟩ | ⟨x, l, c, zs, hcs, _, hl, hm, hz, hx, hcell, hwz⟩
  · simp [Value.cells] at hcs
    obtain ⟨rfl, rfl, rfl⟩ := hcs
    simp only [Prod.mk.injEq] at hx
    exact ⟨[], ⟨rfl, by omega, by omega, Or.inl rfl⟩, Or.inl ⟨hx.1, rfl⟩⟩
  · simp [Value.cells] at hcs
    obtain ⟨rfl, rfl, rfl⟩ := hcs
    simp only [Prod.mk.injEq] at hx
    simp at hz
    unfold maxLen at hm
    refine ⟨zs.take len, ⟨by simp; omega, hl, by omega, ?_⟩, Or.inr ⟨_, _, hx.1, by simp [lits]; omega, by simp [lits]; omega⟩⟩
    by_cases h0 : len = 0
    · exact Or.inl h0
    · right
      obtain ⟨b, off, spot⟩ := x
      have hc := hcell 0 (by omega)
      have hspot : spot = none := by simpa [Addr.add] using World.cell?_spot hc
      subst hspot
      refine ⟨b, off, rfl, fun i hi => ?_⟩
      have := hcell i (by omega)
      rw [Addr.add_lit] at this
      rw [this]
      simp [List.getD, hi]

/-- What a tree has: runs told by a number, just those of P. -/
structure Cont (t : Tr) (P : Int → Prop) : Prop where
  rv : ∀ x ∈ t.runs, x = rv x.lba
  has : ∀ z, t.Has z ↔ P z
theorem Cont.congr {t : Tr} {P Q : Int → Prop} (h : Cont t P) (e : ∀ z, P z ↔ Q z) : Cont t Q := ⟨h.rv, fun z => (h.has z).trans (e z)⟩

theorem Mt.insAny {w wr : World} {b p k N : Nat} {l : List Nat} {t : Tr} {P : Int → Prop} (h : Mt w wr b p k N l t) (hc : Cont t P) (hl : t.views.length < N) (z : Int) :
    Calls Try.prog 10 #[.pointer (some ⟨b, 0, none⟩), .agg (rnA ⟨z, 1, 7⟩)] wr fun e w' => (∃ c, e = .returned (.int .i64 c)) ∧ (∃ l' t', Mt w w' b p k N l' t' ∧ Cont t' (fun y => y = z ∨ P y) ∧ t'.views.length ≤ t.views.length + 1) ∧ Keep (Own3 b p k) wr w' := by
  have ho := h.ord
  by_cases e : t.idOf z = 0
  · have hr := h.room
    cases l with
    | nil => simp at hr; omega
    | cons a l =>
      refine (h.insert ⟨z, 1, 7⟩ e).mono ?_
      rintro e w' ⟨rfl, hM, hk⟩
      refine ⟨⟨_, rfl⟩, ⟨l, _, hM, ⟨fun x hx => ?_, fun y => ?_⟩, by rw [Tr.views_len, Tr.ins_len, ← Tr.views_len]; omega⟩, hk⟩
      · rcases (Tr.mem_runs_ins ho).1 hx with rfl | hx
        · rfl
        · exact hc.rv x hx
      · rw [Tr.has_runs hM.ord, ← hc.has y, Tr.has_runs ho]
        constructor
        · rintro ⟨x, hx, rfl⟩
          rcases (Tr.mem_runs_ins ho).1 hx with rfl | hx
          · exact Or.inl rfl
          · exact Or.inr ⟨x, hx, rfl⟩
        · rintro (rfl | ⟨x, hx, rfl⟩)
          · exact ⟨⟨y, 1, 7⟩, (Tr.mem_runs_ins ho).2 (Or.inl rfl), rfl⟩
          · exact ⟨x, (Tr.mem_runs_ins ho).2 (Or.inr hx), rfl⟩
  · refine (h.insertOld ⟨z, 1, 7⟩ e).mono ?_
    rintro e' w' ⟨rfl, hk⟩
    refine ⟨⟨_, rfl⟩, ⟨l, t, h.more hk, hc.congr (fun y => ?_), by omega⟩, hk.none3⟩
    constructor
    · exact Or.inr
    · rintro (rfl | h')
      · exact (hc.has y).1 (h.has.2 e)
      · exact h'
theorem Mt.delAny {w wr : World} {b p k N : Nat} {l : List Nat} {t : Tr} {P : Int → Prop} (h : Mt w wr b p k N l t) (hc : Cont t P) (z : Int) :
    Calls Try.prog 13 #[.pointer (some ⟨b, 0, none⟩), .int .i64 z] wr fun e w' => (∃ c, e = .returned (.int .i64 c)) ∧ (∃ l' t', Mt w w' b p k N l' t' ∧ Cont t' (fun y => P y ∧ y ≠ z)) ∧ Keep (Own3 b p k) wr w' := by
  have ho := h.ord
  by_cases e : t.idOf z = 0
  · refine (h.deleteNo z e).mono ?_
    rintro e' w' ⟨rfl, hk⟩
    refine ⟨⟨_, rfl⟩, ⟨l, t, h.more hk, hc.congr (fun y => ?_)⟩, hk.none3⟩
    constructor
    · intro h'
      refine ⟨h', ?_⟩
      rintro rfl
      exact (h.has.1 ((hc.has y).2 h')) e
    · exact fun h' => h'.1
  · refine (h.delete z e).mono ?_
    rintro e' w' ⟨rfl, hM, hk⟩
    refine ⟨⟨_, rfl⟩, ⟨_, _, hM, ⟨fun x hx => hc.rv x ((Tr.mem_runs_del ho).1 hx).1, fun y => ?_⟩⟩, hk⟩
    rw [Tr.has_runs hM.ord, ← hc.has y, Tr.has_runs ho]
    constructor
    · rintro ⟨x, hx, rfl⟩
      obtain ⟨h1, h2⟩ := (Tr.mem_runs_del ho).1 hx
      exact ⟨⟨x, h1, rfl⟩, h2⟩
    · rintro ⟨⟨x, hx, rfl⟩, h2⟩
      exact ⟨x, (Tr.mem_runs_del ho).2 ⟨hx, h2⟩, rfl⟩

theorem up_same : ∀ (a b : List Rn), Tr.Up a → Tr.Up b → (∀ x, x ∈ a ↔ x ∈ b) → a = b
  | [], [], _, _, _ => rfl
  | [], y :: b, _, _, h => by have := (h y).2 (by simp); simp at this
  | x :: a, [], _, _, h => by have := (h x).1 (by simp); simp at this
  | x :: a, y :: b, ha, hb, h => by
    obtain ⟨ha1, ha2⟩ := List.pairwise_cons.1 ha
    obtain ⟨hb1, hb2⟩ := List.pairwise_cons.1 hb
    have hxy : x = y := by
      rcases List.mem_cons.1 ((h x).1 (by simp)) with e | e
      · exact e
      · rcases List.mem_cons.1 ((h y).2 (by simp)) with e2 | e2
        · exact e2.symm
        · have := hb1 x e; have := ha1 y e2; omega
    subst hxy
    congr 1
    refine up_same a b ha2 hb2 (fun z => ?_)
    constructor
    · intro hz
      rcases List.mem_cons.1 ((h z).1 (by simp [hz])) with rfl | e
      · have := ha1 z hz; omega
      · exact e
    · intro hz
      rcases List.mem_cons.1 ((h z).2 (by simp [hz])) with rfl | e
      · have := hb1 z hz; omega
      · exact e
theorem Cont.same {t u : Tr} {P Q : Int → Prop} (ht : Cont t P) (hu : Cont u Q) (ot : t.Ord) (ou : u.Ord) (e : ∀ z, P z ↔ Q z) : t.runs = u.runs := by
  refine up_same _ _ (Tr.ord_up.1 ot) (Tr.ord_up.1 ou) (fun x => ?_)
  have key : ∀ {t : Tr} {P : Int → Prop}, Cont t P → t.Ord → (x ∈ t.runs ↔ x = Tg.rv x.lba ∧ P x.lba) := fun {t P} hc ho => by
    constructor
    · exact fun hx => ⟨hc.rv x hx, (hc.has _).1 ((Tr.has_runs ho).2 ⟨x, hx, rfl⟩)⟩
    · rintro ⟨h1, h2⟩
      obtain ⟨y, hy, e⟩ := (Tr.has_runs ho).1 ((hc.has _).2 h2)
      have := hc.rv y hy
      rw [e, ← h1] at this
      rw [← this]; exact hy
  rw [key ht ot, key hu ou, e]
end Tg
end Go.Proofs.Ytnipckcpnbdhhaa
