/-
  What ContainsFunc answers of a row of runs, asked for a run's first sector. What swap makes of a tree, as mathematics: which runs it has. What swap leaves: the fresh runs in the place of the old ones. What lay leaves: the runs near a range joined anew, or EFULL and nothing changed. What Set and Clear answer and leave. What a change answers, told as done or as full.
-/
import Derived.Test.YtkddonmddgfpnaaTe
import Derived.Deep.RegionHeld3
namespace Go.Proofs.Ytkddonmddgfpnaa
open Go.ChangeShapes Go.WideShapes Go.ChangeAt Go.RowKit
namespace Tg

/-- Does a run of a list begin there? -/
def hasL (v : Int) (f : List Rn) : Bool := f.any (fun x => x.lba == v)
theorem hasL_iff {v : Int} {f : List Rn} : hasL v f = true ↔ ∃ x ∈ f, x.lba = v := by simp [hasL]

set_option maxRecDepth 100000 in
theorem clo_any {w : World} {g : Nat} {r : Rn} (L : Lrn w g r) (f : Rn) :
    Calls Try.prog 70 #[.agg (rnA f), .pointer (some ⟨g, 0, none⟩)] w fun e w' => e = .returned (.bool (f.lba == r.lba)) ∧ Keep (fun _ => False) w w' := by
  have K1 : Keep (fun _ => False) w (w.alloc (.cells (rnA f) 34)) := (Keep.refl _ _).alloc _
  obtain ⟨p0, -, -⟩ := (L.more K1).c
  rw [rnA_lit] at K1 p0 ⊢
  clear L
  go_enter Try.func70, Try.ntmps70
  go_wp2_with fail
  go_ret
  exact ⟨rfl, K1⟩

set_option maxRecDepth 100000 in
set_option maxHeartbeats 1000000 in
theorem index_any {w : World} {a : Option Addr} {c g : Nat} {f : List Rn} {r : Rn} (h : Rs w a c f) (hl : f.length ≤ 100000) (L : Lrn w g r) :
    Calls Try.prog 75 #[.slice a f.length c, .func (Fn.func 70) #[] #[.pointer (some ⟨g, 0, none⟩)]] w fun e w' => ∃ k : Int, e = .returned (.int .i64 k) ∧ decide (0 ≤ k) = hasL r.lba f ∧ Keep (fun _ => False) w w' := by
  have hc := h.1
  have K0 := Keep.refl (fun _ => False) w
  have hl' : Hid (f.length ≤ 100000) := hl
  have dl : (f.length : Int) ≤ 100000 := by omega
  clear hl
  go_enter Try.func75, Try.ntmps75
  go_wp2_with fail
  go_loopw [8] (fun v wx => ∃ i : Nat, i ≤ f.length ∧ v = .int .i64 (i : Int) ∧ Hid (∀ x ∈ f.take i, ¬ x.lba = r.lba) ∧ Keep (fun _ => False) w wx) (fun v _ => f.length - (intOf v).toNat)
  case atStart => exact ⟨0, by omega, rfl, by intro x hx; simp at hx, K0⟩
  case round =>
    obtain ⟨i, hi, rfl, hI, k1⟩ := hrel
    by_cases hlt : i < f.length
    · obtain ⟨x, hx⟩ := get_rn hlt
      obtain ⟨g1, rfl, e0, e1, e2⟩ := (h.more k1).at hx
      have di : (i : Int) < (f.length : Int) := by omega
      have dw := wrapI (x := (i : Int) + 1) (by omega) (by omega)
      have hcl := clo_any (L.more k1) x
      rw [rnA_lit] at hcl
      have htk : Hid (f.take (i + 1) = f.take i ++ [x]) := by show f.take (i + 1) = f.take i ++ [x]; rw [List.take_add_one, hx]; rfl
      have hmem : Hid (x ∈ f) := List.mem_of_getElem? hx
      have hlt' : Hid (i < f.length) := hlt
      by_cases e : x.lba = r.lba
      · have eb : (x.lba == r.lba) = true := by simp [e]
        have e' : Hid (x.lba = r.lba) := e
        rw [eb] at hcl
        clear hx e eb hlt h
        go_wp2_with (go_at_call 70; refine hcl.mono ?_; rintro e w2 ⟨rfl, k2⟩)
        go_ret
        exact ⟨i, rfl, by rw [hasL_iff.2 ⟨x, hmem, e'⟩]; simp, k1.trans k2⟩
      · have eb : (x.lba == r.lba) = false := by simp [e]
        have e' : Hid (¬ x.lba = r.lba) := e
        rw [eb] at hcl
        clear hx e eb hlt
        go_wp2_with (go_at_call 70; refine hcl.mono ?_; rintro e w2 ⟨rfl, k2⟩)
        go_roundw
        case rel =>
          refine ⟨i + 1, hlt', by go_num, ?_, k1.trans k2⟩
          intro y hy
          rw [(show f.take (i + 1) = f.take i ++ [x] from htk)] at hy
          rcases List.mem_append.1 hy with hy | hy
          · exact hI y hy
          · simp at hy; subst hy; exact e'
        case measure => have : i < f.length := hlt'; simp [intOf]; omega
    · have di : ¬ (i : Int) < (f.length : Int) := by omega
      have hno : Hid (hasL r.lba f = false) := by
        show hasL r.lba f = false
        rw [Bool.eq_false_iff]
        intro hh
        obtain ⟨x, hx, e⟩ := hasL_iff.1 hh
        exact hI x (by rw [List.take_of_length_le (by omega)]; exact hx) e
      clear h L hlt
      go_wp2_with fail
      go_ret
      exact ⟨-1, rfl, by rw [show hasL r.lba f = false from hno]; rfl, k1⟩

set_option maxRecDepth 100000 in
theorem cont_any {w : World} {a : Option Addr} {c g : Nat} {f : List Rn} {r : Rn} (h : Rs w a c f) (hl : f.length ≤ 100000) (L : Lrn w g r) :
    Calls Try.prog 69 #[.slice a f.length c, .func (Fn.func 70) #[] #[.pointer (some ⟨g, 0, none⟩)]] w fun e w' => e = .returned (.bool (hasL r.lba f)) ∧ Keep (fun _ => False) w w' := by
  have hi := index_any h hl L
  clear h L
  go_enter Try.func69, Try.ntmps69
  go_wp2_with (go_at_call 75; refine hi.mono ?_; rintro e w2 ⟨k, rfl, hk, k2⟩)
  go_ret
  exact ⟨rfl, k2⟩
end Tg
end Go.Proofs.Ytkddonmddgfpnaa
namespace Go.Proofs.Ytkddonmddgfpnaa
namespace Tg

theorem Tr.mem_runs_ins {n : Nat} {v x : Rn} {t : Tr} (ho : t.Ord) : x ∈ (t.ins n v).runs ↔ x = v ∨ x ∈ t.runs := by
  unfold Tr.runs
  rw [Tr.ins_seq n v t ho]
  constructor
  · intro h
    obtain ⟨z, hz, rfl⟩ := List.mem_map.1 h
    rcases Tr.mem_putL.1 hz with rfl | hz
    · exact Or.inl rfl
    · exact Or.inr (List.mem_map.2 ⟨z, hz, rfl⟩)
  · rintro (rfl | h)
    · exact List.mem_map.2 ⟨(n, x), Tr.mem_putL.2 (Or.inl rfl), rfl⟩
    · obtain ⟨z, hz, rfl⟩ := List.mem_map.1 h
      exact List.mem_map.2 ⟨z, Tr.mem_putL.2 (Or.inr hz), rfl⟩
theorem Tr.mem_runs_del {k : Int} {x : Rn} {t : Tr} (ho : t.Ord) : x ∈ (t.del k).runs ↔ x ∈ t.runs ∧ x.lba ≠ k := by
  unfold Tr.runs
  rw [Tr.del_seq k t ho]
  constructor
  · intro h
    obtain ⟨z, hz, rfl⟩ := List.mem_map.1 h
    obtain ⟨h1, h2⟩ := List.mem_filter.1 hz
    exact ⟨List.mem_map.2 ⟨z, h1, rfl⟩, by simpa using h2⟩
  · rintro ⟨h, hk⟩
    obtain ⟨z, hz, rfl⟩ := List.mem_map.1 h
    exact List.mem_map.2 ⟨z, List.mem_filter.2 ⟨hz, by simpa using hk⟩, rfl⟩
theorem Tr.has_runs {k : Int} {t : Tr} (ho : t.Ord) : t.Has k ↔ ∃ x ∈ t.runs, x.lba = k := by
  rw [Tr.has_iff ho]
  constructor
  · rintro ⟨z, hz, e⟩; exact ⟨z.2, List.mem_map.2 ⟨z, hz, rfl⟩, e⟩
  · rintro ⟨x, hx, e⟩
    obtain ⟨z, hz, rfl⟩ := List.mem_map.1 hx
    exact ⟨z, hz, e⟩
theorem up_same : ∀ (a b : List Rn), Tr.Up a → Tr.Up b → (∀ x, x ∈ a ↔ x ∈ b) → a = b
  | [], [], _, _, _ => rfl
  | [], y :: b, _, _, h => by have := (h y).2 (by simp); simp at this
  | x :: a, [], _, _, h => by have := (h x).1 (by simp); simp at this
  | x :: a, y :: b, ha, hb, h => by
    obtain ⟨ha1, ha2⟩ := List.pairwise_cons.1 ha
    obtain ⟨hb1, hb2⟩ := List.pairwise_cons.1 hb
    have hxy : x = y := by
      rcases List.mem_cons.1 ((h x).1 (by simp)) with e | e
      · exact e
      · rcases List.mem_cons.1 ((h y).2 (by simp)) with e2 | e2
        · exact e2.symm
        · have := hb1 x e; have := ha1 y e2; omega
    subst hxy
    congr 1
    refine up_same a b ha2 hb2 (fun z => ?_)
    constructor
    · intro hz
      rcases List.mem_cons.1 ((h z).1 (by simp [hz])) with rfl | e
      · have := ha1 z hz; omega
      · exact e
    · intro hz
      rcases List.mem_cons.1 ((h z).2 (by simp [hz])) with rfl | e
      · have := hb1 z hz; omega
      · exact e
theorem Tr.mem_runs_chg {v x : Rn} {t : Tr} (ho : t.Ord) (hv : t.Has v.lba) : x ∈ (t.chg v).runs ↔ x = v ∨ (x ∈ t.runs ∧ x.lba ≠ v.lba) := by
  unfold Tr.runs
  rw [Tr.chg_seq v t ho]
  unfold Tr.chgL
  rw [List.map_map]
  constructor
  · intro h
    obtain ⟨z, hz, rfl⟩ := List.mem_map.1 h
    by_cases c : z.2.lba = v.lba
    · left; simp [c]
    · right; simp [c]; exact ⟨z.1, hz⟩
  · rintro (rfl | ⟨h, hk⟩)
    · obtain ⟨z, hz, e⟩ := (Tr.has_iff ho).1 hv
      exact List.mem_map.2 ⟨z, hz, by simp [e]⟩
    · obtain ⟨z, hz, rfl⟩ := List.mem_map.1 h
      exact List.mem_map.2 ⟨z, hz, by simp [hk]⟩
theorem Tr.runs_len (t : Tr) : t.views.length = t.runs.length := by rw [← Tr.views_runs]; simp

/-- What is there behind the first i of the old runs. -/
def DelI (m o f : List Rn) (i : Nat) (t : Tr) : Prop := ∀ x, x ∈ t.runs ↔ x ∈ m ∧ ¬ (x ∈ o.take i ∧ hasL x.lba f = false)
/-- What is there behind the first j of the fresh runs. -/
def PutI (m o f : List Rn) (j : Nat) (t : Tr) : Prop := ∀ x, x ∈ t.runs ↔ x ∈ f.take j ∨ ((x ∈ m ∧ ¬ (x ∈ o ∧ hasL x.lba f = false)) ∧ ∀ y ∈ f.take j, y.lba ≠ x.lba)

theorem up_one {m : List Rn} (h : Tr.Up m) {x y : Rn} (hx : x ∈ m) (hy : y ∈ m) (e : x.lba = y.lba) : x = y := by
  induction m with
  | nil => cases hx
  | cons z m ih =>
    obtain ⟨h1, h2⟩ := List.pairwise_cons.1 h
    rcases List.mem_cons.1 hx with ex | hx1
    · subst ex
      rcases List.mem_cons.1 hy with ey | hy1
      · exact ey.symm
      · have := h1 y hy1; omega
    · rcases List.mem_cons.1 hy with ey | hy1
      · subst ey; have := h1 x hx1; omega
      · exact ih h2 hx1 hy1
theorem up_take {m : List Rn} (h : Tr.Up m) {i : Nat} {x : Rn} (hx : m[i]? = some x) {y : Rn} (hy : y ∈ m.take i) : y.lba < x.lba := by
  have hi := (List.getElem?_eq_some_iff.1 hx).1
  obtain ⟨j, hj, rfl⟩ := List.mem_take_iff_getElem.1 hy
  have := List.pairwise_iff_getElem.1 h j i (by omega) hi (by omega)
  rw [(List.getElem?_eq_some_iff.1 hx).2] at this
  exact this
theorem take_next {m : List Rn} {i : Nat} {x : Rn} (hx : m[i]? = some x) : m.take (i + 1) = m.take i ++ [x] := by rw [List.take_add_one, hx]; rfl

theorem DelI.start {m o f : List Rn} {t : Tr} (h : t.runs = m) : DelI m o f 0 t := fun x => by rw [h]; simp
theorem DelI.keep {m o f : List Rn} {i : Nat} {t : Tr} (h : DelI m o f i t) {x : Rn} (hx : o[i]? = some x) (hf : hasL x.lba f = true) : DelI m o f (i + 1) t := fun y => by
  rw [h y, take_next hx]
  constructor
  · rintro ⟨h1, h2⟩
    refine ⟨h1, fun ⟨h3, h4⟩ => ?_⟩
    rcases List.mem_append.1 h3 with h3 | h3
    · exact h2 ⟨h3, h4⟩
    · simp at h3; subst h3; rw [hf] at h4; cases h4
  · rintro ⟨h1, h2⟩
    exact ⟨h1, fun ⟨h3, h4⟩ => h2 ⟨by simp [h3], h4⟩⟩
theorem DelI.has {m o f : List Rn} {i : Nat} {t : Tr} (h : DelI m o f i t) (ho : t.Ord) (hu : Tr.Up o) {x : Rn} (hx : o[i]? = some x) (hm : x ∈ m) : t.Has x.lba :=
  (Tr.has_runs ho).2 ⟨x, (h x).2 ⟨hm, fun ⟨h3, _⟩ => by have := up_take hu hx h3; omega⟩, rfl⟩
theorem DelI.del {m o f : List Rn} {i : Nat} {t : Tr} (h : DelI m o f i t) (ho : t.Ord) (hum : Tr.Up m) {x : Rn} (hx : o[i]? = some x) (hm : x ∈ m) (hf : hasL x.lba f = false) : DelI m o f (i + 1) (t.del x.lba) := fun y => by
  rw [Tr.mem_runs_del ho, h y, take_next hx]
  constructor
  · rintro ⟨⟨h1, h2⟩, h3⟩
    refine ⟨h1, fun ⟨h4, h5⟩ => ?_⟩
    rcases List.mem_append.1 h4 with h4 | h4
    · exact h2 ⟨h4, h5⟩
    · simp at h4; subst h4; exact h3 rfl
  · rintro ⟨h1, h2⟩
    refine ⟨⟨h1, fun ⟨h3, h4⟩ => h2 ⟨by simp [h3], h4⟩⟩, fun e => h2 ⟨?_, by rw [e]; exact hf⟩⟩
    rw [up_one hum h1 hm e]
    simp
theorem DelI.end {m o f : List Rn} {t : Tr} (h : DelI m o f o.length t) : PutI m o f 0 t := fun x => by rw [h x, List.take_length]; simp

theorem PutI.chg {m o f : List Rn} {j : Nat} {t : Tr} (h : PutI m o f j t) (ho : t.Ord) (huf : Tr.Up f) {x : Rn} (hx : f[j]? = some x) (hh : t.Has x.lba) : PutI m o f (j + 1) (t.chg x) := fun y => by
  rw [Tr.mem_runs_chg ho hh, h y, take_next hx]
  constructor
  · rintro (rfl | ⟨h1 | ⟨h1, h2⟩, h3⟩)
    · left; simp
    · left; simp [h1]
    · right
      refine ⟨h1, fun z hz => ?_⟩
      rcases List.mem_append.1 hz with hz | hz
      · exact h2 z hz
      · simp at hz; subst hz; exact fun e => h3 e.symm
  · rintro (h1 | ⟨h1, h2⟩)
    · rcases List.mem_append.1 h1 with h1 | h1
      · right; exact ⟨Or.inl h1, by have := up_take huf hx h1; omega⟩
      · simp at h1; exact Or.inl h1
    · right
      exact ⟨Or.inr ⟨h1, fun z hz => h2 z (by simp [hz])⟩, fun e => h2 x (by simp) e.symm⟩
theorem PutI.ins {m o f : List Rn} {j : Nat} {t : Tr} (h : PutI m o f j t) (ho : t.Ord) {x : Rn} (hx : f[j]? = some x) (hh : ¬ t.Has x.lba) (n : Nat) : PutI m o f (j + 1) (t.ins n x) := fun y => by
  rw [Tr.mem_runs_ins ho, take_next hx]
  have hno : y ∈ t.runs → y.lba ≠ x.lba := fun hy e => hh ((Tr.has_runs ho).2 ⟨y, hy, e⟩)
  constructor
  · rintro (rfl | h1)
    · left; simp
    · have hne := hno h1
      rcases (h y).1 h1 with h2 | ⟨h2, h3⟩
      · left; simp [h2]
      · right
        refine ⟨h2, fun z hz => ?_⟩
        rcases List.mem_append.1 hz with hz | hz
        · exact h3 z hz
        · simp at hz; subst hz; exact fun e => hne e.symm
  · rintro (h1 | ⟨h1, h2⟩)
    · rcases List.mem_append.1 h1 with h1 | h1
      · right; exact (h y).2 (Or.inl h1)
      · simp at h1; exact Or.inl h1
    · right
      exact (h y).2 (Or.inr ⟨h1, fun z hz => h2 z (by simp [hz])⟩)
/-- No more runs at any time than at the end. -/
theorem PutI.len {A B o f : List Rn} {j : Nat} {t : Tr} (h : PutI (A ++ o ++ B) o f j t) (ho : t.Ord) (hu : Tr.Up (A ++ f ++ B)) : t.runs.length ≤ (A ++ f ++ B).length := by
  refine up_len (Tr.ord_up.1 ho) hu (fun x hx => ?_)
  rcases (h x).1 hx with h1 | ⟨⟨h1, h2⟩, -⟩
  · exact ⟨x, by simp [List.mem_of_mem_take h1], rfl⟩
  · by_cases c : hasL x.lba f = true
    · obtain ⟨y, hy, e⟩ := hasL_iff.1 c
      exact ⟨y, by simp [hy], e⟩
    · have c' : hasL x.lba f = false := by simpa using c
      have : x ∉ o := fun hxo => h2 ⟨hxo, c'⟩
      simp only [List.mem_append] at h1
      exact ⟨x, by simp only [List.mem_append]; rcases h1 with (h1 | h1) | h1; exact Or.inl (Or.inl h1); exact absurd h1 this; exact Or.inr h1, rfl⟩
theorem PutI.end {A B o f : List Rn} {t : Tr} (h : PutI (A ++ o ++ B) o f f.length t) (ho : t.Ord) (hm : Tr.Up (A ++ o ++ B)) (hu : Tr.Up (A ++ f ++ B)) : t.runs = A ++ f ++ B := by
  refine up_same _ _ (Tr.ord_up.1 ho) hu (fun x => ?_)
  rw [h x, List.take_length]
  have hA : ∀ x ∈ A, hasL x.lba f = false := fun x hx => by
    rw [Bool.eq_false_iff]
    intro hh
    obtain ⟨y, hy, e⟩ := hasL_iff.1 hh
    have := (List.pairwise_append.1 (List.pairwise_append.1 hu).1).2.2 x hx y hy
    omega
  have hB : ∀ x ∈ B, hasL x.lba f = false := fun x hx => by
    rw [Bool.eq_false_iff]
    intro hh
    obtain ⟨y, hy, e⟩ := hasL_iff.1 hh
    have := (List.pairwise_append.1 hu).2.2 y (by simp [hy]) x hx
    omega
  have hAo : ∀ x ∈ A, x ∉ o := fun x hx hxo => by
    have := (List.pairwise_append.1 (List.pairwise_append.1 hm).1).2.2 x hx x hxo
    omega
  have hBo : ∀ x ∈ B, x ∉ o := fun x hx hxo => by
    have := (List.pairwise_append.1 hm).2.2 x (by simp [hxo]) x hx
    omega
  have hno : ∀ x : Rn, hasL x.lba f = false → ∀ y ∈ f, y.lba ≠ x.lba := fun x hx y hy e => by rw [hasL_iff.2 ⟨y, hy, e⟩] at hx; cases hx
  simp only [List.mem_append]
  constructor
  · rintro (h1 | ⟨⟨h1, h2⟩, h3⟩)
    · exact Or.inl (Or.inr h1)
    · have c : hasL x.lba f = false := by
        rw [Bool.eq_false_iff]
        intro hh
        obtain ⟨y, hy, e⟩ := hasL_iff.1 hh
        exact h3 y hy e
      have : x ∉ o := fun hxo => h2 ⟨hxo, c⟩
      rcases h1 with (h1 | h1) | h1
      · exact Or.inl (Or.inl h1)
      · exact absurd h1 this
      · exact Or.inr h1
  · rintro ((h1 | h1) | h1)
    · exact Or.inr ⟨⟨Or.inl (Or.inl h1), fun ⟨h2, _⟩ => hAo x h1 h2⟩, hno x (hA x h1)⟩
    · exact Or.inl h1
    · exact Or.inr ⟨⟨Or.inr h1, fun ⟨h2, _⟩ => hBo x h1 h2⟩, hno x (hB x h1)⟩
end Tg
end Go.Proofs.Ytkddonmddgfpnaa
namespace Go.Proofs.Ytkddonmddgfpnaa
open Go.ChangeShapes Go.WideShapes Go.ChangeAt Go.RowKit
namespace Tg

theorem Mt.ord {w wr : World} {b p k N : Nat} {l : List Nat} {t : Tr} (h : Mt w wr b p k N l t) : t.Ord := by
  obtain ⟨s, hT, -⟩ := h.ex
  exact hT.ord
/-- A map's tree and struct, in the midst of a change. -/
structure Mid (w w0 wx : World) (q b p k : Nat) (N cap : Nat) (l : List Nat) (t : Tr) : Prop where
  mt : Mt w wx b p k N l t
  top : wx.cell? ⟨q, 2, none⟩ = some (.pointer (some ⟨b, 0, none⟩))
  keep : Keep (Own3 b p k) w0 wx
theorem Mid.more {w w0 wx w' : World} {q b p k N cap : Nat} {l : List Nat} {t : Tr} (h : Mid w w0 wx q b p k N cap l t) (hk : Keep (fun _ => False) wx w') : Mid w w0 w' q b p k N cap l t :=
  ⟨h.mt.more hk, by rw [← h.top]; exact World.cell?_of_block (w := wx) (a := ⟨q, 2, none⟩) (hk.block q (World.block_lt_of_cell? wx _ h.top) (fun e => e)), h.keep.next hk (fun _ _ e => e.elim)⟩
theorem Mid.to {w w0 wx w' : World} {q b p k N cap : Nat} {l l' : List Nat} {t t' : Tr} (h : Mid w w0 wx q b p k N cap l t) (hq : ¬ Own3 b p k q) (hm : Mt w w' b p k N l' t') (hk : Keep (Own3 b p k) wx w') : Mid w w0 w' q b p k N cap l' t' :=
  ⟨hm, by rw [← h.top]; exact World.cell?_of_block (w := wx) (a := ⟨q, 2, none⟩) (hk.block q (World.block_lt_of_cell? wx _ h.top) hq), h.keep.trans hk⟩

set_option maxRecDepth 100000 in
set_option maxHeartbeats 4000000 in
theorem swap_any {w wa : World} {q b p k N cap : Nat} {l0 : List Nat} {t0 : Tr} (h : Mid w wa wa q b p k N cap l0 t0) (hq : ¬ Own3 b p k q) {A o f B : List Rn} (hm : t0.runs = A ++ o ++ B) (hu : Tr.Up (A ++ f ++ B)) (hN : (A ++ f ++ B).length ≤ N) (hN2 : N ≤ 512)
    {a1 a2 : Option Addr} {c1 c2 : Nat} (r1 : Rs wa a1 c1 o) (r2 : Rs wa a2 c2 f) (s1 : ∀ g, a1 = some ⟨g, 0, none⟩ → ¬ Own3 b p k g) (s2 : ∀ g, a2 = some ⟨g, 0, none⟩ → ¬ Own3 b p k g) :
    Calls Try.prog 62 #[.pointer (some ⟨q, 0, none⟩), .slice a1 o.length c1, .slice a2 f.length c2] wa fun e w' => e = .returned (.tuple #[]) ∧ ∃ l t, Mid w wa w' q b p k N cap l t ∧ t.runs = A ++ f ++ B := by
  have hum : Tr.Up (A ++ o ++ B) := by rw [← hm]; exact Tr.ord_up.1 h.mt.ord
  have huo : Tr.Up o := (List.pairwise_append.1 (List.pairwise_append.1 hum).1).2.1
  have huf : Tr.Up f := (List.pairwise_append.1 (List.pairwise_append.1 hu).1).2.1
  have hol : o.length ≤ 512 := by
    have := h.mt.room
    rw [Tr.runs_len, hm] at this
    simp at this
    omega
  have hfl : f.length ≤ 512 := by simp at hN; omega
  have hc1 := r1.1
  have hc2 := r2.1
  have hs := h.keep.size
  have D0 : DelI (A ++ o ++ B) o f 0 t0 := DelI.start hm
  have HU : Hid (Tr.Up (A ++ f ++ B) ∧ Tr.Up (A ++ o ++ B) ∧ Tr.Up o ∧ Tr.Up f ∧ (A ++ f ++ B).length ≤ N) := ⟨hu, hum, huo, huf, hN⟩
  clear hu hum huo huf hN hm
  go_enter Try.func62, Try.ntmps62
  go_wp2_with fail
  go_loopw [12] (fun v wx => ∃ (i : Nat) (l : List Nat) (t : Tr), i ≤ o.length ∧ v = .int .i64 (i : Int) ∧ Hid (DelI (A ++ o ++ B) o f i t) ∧ Mid w wa wx q b p k N cap l t) (fun v _ => o.length - (intOf v).toNat)
  case atStart => exact ⟨0, l0, t0, by omega, rfl, D0, h⟩
  case round =>
    obtain ⟨i, l, t, hi, rfl, hD, M1⟩ := hrel
    clear D0
    by_cases hlt : i < o.length
    · obtain ⟨x, hx⟩ := get_rn hlt
      have hxm : x ∈ A ++ o ++ B := by have := List.mem_of_getElem? hx; simp [this]
      have di : (i : Int) < (o.length : Int) := by omega
      have dw := wrapI (x := (i : Int) + 1) (by omega) (by omega)
      have r1' := r1.keep M1.keep s1
      have r2' := r2.keep M1.keep s2
      obtain ⟨g, rfl, e0, e1, e2⟩ := r1'.at hx
      have K2 : Keep (fun _ => False) wr (wr.alloc (.cells (rnA x) 34)) := (Keep.refl _ _).alloc _
      have L2 := Lrn.new wr x
      have hcon := cont_any (r2'.more K2) (by omega) L2
      have M2 := M1.more K2
      have hg2 : wr.heap.size < (wr.alloc (.cells (rnA x) 34)).heap.size := by simp
      have hlt' : Hid (i < o.length) := hlt
      cases hf : hasL x.lba f with
      | true =>
        have hD2 : Hid (DelI (A ++ o ++ B) o f (i + 1) t) := DelI.keep hD hx hf
        rw [hf] at hcon
        generalize hW : wr.alloc (.cells (rnA x) 34) = w2 at K2 L2 hcon M2 hg2
        rw [rnA_lit] at hW
        clear hf hx hD hlt r1' r2' r1 r2 h M1
        go_wp2_with (go_at_call 69; refine hcon.mono ?_; rintro e w3 ⟨rfl, k3⟩)
        go_roundw
        case rel => exact ⟨i + 1, l, t, hlt', by go_num, hD2, M2.more k3⟩
        case measure => have : i < o.length := hlt'; simp [intOf]; omega
      | false =>
        have hh := DelI.has hD M1.mt.ord HU.2.2.1 hx hxm
        have hD2 : Hid (DelI (A ++ o ++ B) o f (i + 1) (t.del x.lba)) := DelI.del hD M1.mt.ord HU.2.1 hx hxm hf
        rw [hf] at hcon
        generalize hW : wr.alloc (.cells (rnA x) 34) = w2 at K2 L2 hcon M2 hg2
        rw [rnA_lit] at hW
        have hgO : ¬ Own3 b p k wr.heap.size := M1.mt.out (Nat.le_refl _)
        have hid := M1.mt.has.1 hh
        clear hf hx hD hlt r1' r2' h M1
        go_upto_region 4 with (go_at_call 69; refine hcon.mono ?_; rintro e w3 ⟨rfl, k3⟩)
        have L3 : Lrn w3.drew wr.heap.size x := L2.more (k3.drew)
        have M3 : Mid w wa w3.drew q b p k N cap l t := (M2.more k3).more ((Keep.refl _ _).drew)
        have hdel := M3.mt.delete x.lba hid
        have hS : ∀ w', Keep (Own3 b p k) w3.drew w' → w'.cell? ⟨q, 2, none⟩ = some (.pointer (some ⟨b, 0, none⟩)) ∧ w'.cell? ⟨wr.heap.size, 0, none⟩ = some (.int .i64 x.lba) := fun w' hk => ⟨by rw [← M3.top]; exact World.cell?_of_block (w := w3.drew) (a := ⟨q, 2, none⟩) (hk.block q (World.block_lt_of_cell? w3.drew _ M3.top) hq), (Blk.keep L3 hk hgO 0 (by omega)).1⟩
        clear hcon hW L2
        go_region_held3 (fun w' => w'.cell? ⟨q, 2, none⟩ = some (.pointer (some ⟨b, 0, none⟩)) ∧ w'.cell? ⟨wr.heap.size, 0, none⟩ = some (.int .i64 x.lba)) (first | exact hS _ (Keep.refl _ _) | exact hS _ k4) ((go_at_call 71; refine hdel.mono ?_; rintro e w4 ⟨rfl, M4, k4⟩))
        have M5 := M3.to hq M4 k4
        clear hS hdel L3 M3
        go_wp2_with fail
        go_roundw
        case rel => exact ⟨i + 1, _, _, hlt', by go_num, hD2, M5⟩
        case measure => have : i < o.length := hlt'; simp [intOf]; omega
    · have di : ¬ (i : Int) < (o.length : Int) := by omega
      have ei : i = o.length := by omega
      subst ei
      have P0 : Hid (PutI (A ++ o ++ B) o f 0 t) := DelI.end hD
      clear hD hi hlt r1 s1 h
      go_wp2_with fail
      go_loopw [30] (fun v wx => ∃ (j : Nat) (l : List Nat) (t : Tr), j ≤ f.length ∧ v = .int .i64 (j : Int) ∧ Hid (PutI (A ++ o ++ B) o f j t) ∧ Mid w wa wx q b p k N cap l t) (fun v _ => f.length - (intOf v).toNat)
      case atStart => exact ⟨0, l, t, by omega, rfl, P0, M1⟩
      case round =>
        clear P0 M1
        obtain ⟨j, l, t, hj, rfl, hP, M1⟩ := hrel
        by_cases hlt : j < f.length
        · obtain ⟨x, hx⟩ := get_rn hlt
          have di2 : (j : Int) < (f.length : Int) := by omega
          have dw := wrapI (x := (j : Int) + 1) (by omega) (by omega)
          have r2' := r2.keep M1.keep s2
          obtain ⟨g, rfl, e0, e1, e2⟩ := r2'.at hx
          have K2 : Keep (fun _ => False) wr (wr.alloc (.cells (rnA x) 34)) := (Keep.refl _ _).alloc _
          have L2 := Lrn.new wr x
          have M2 := M1.more K2
          have hlt' : Hid (j < f.length) := hlt
          have hgO : ¬ Own3 b p k wr.heap.size := M1.mt.out (Nat.le_refl _)
          generalize hW : wr.alloc (.cells (rnA x) 34) = w2 at K2 L2 M2
          rw [rnA_lit] at hW
          have M3 : Mid w wa w2.drew q b p k N cap l t := M2.more ((Keep.refl _ _).drew)
          have L3 : Lrn w2.drew wr.heap.size x := L2
          have hS : ∀ w', Keep (Own3 b p k) w2.drew w' → w'.cell? ⟨q, 2, none⟩ = some (.pointer (some ⟨b, 0, none⟩)) ∧ w'.cell? ⟨wr.heap.size, 0, none⟩ = some (.int .i64 x.lba) ∧ w'.cell? ⟨wr.heap.size, 1, none⟩ = some (.int .i64 x.len) ∧ w'.cell? ⟨wr.heap.size, 2, none⟩ = some (.int .i64 x.phys) := fun w' hk => ⟨by rw [← M3.top]; exact World.cell?_of_block (w := w2.drew) (a := ⟨q, 2, none⟩) (hk.block q (World.block_lt_of_cell? w2.drew _ M3.top) hq), (Blk.keep L3 hk hgO 0 (by omega)).1, (Blk.keep L3 hk hgO 1 (by omega)).1, (Blk.keep L3 hk hgO 2 (by omega)).1⟩
          by_cases hh : t.Has x.lba
          · have hP2 : Hid (PutI (A ++ o ++ B) o f (j + 1) (t.chg x)) := PutI.chg hP M1.mt.ord HU.2.2.2.1 hx hh
            have hch := M3.mt.change x (M1.mt.has.1 hh)
            rw [rnA_lit] at hch
            clear hx hP hlt r2' M1 hh
            go_upto_region 9 with fail
            go_region_held3 (fun w' => w'.cell? ⟨q, 2, none⟩ = some (.pointer (some ⟨b, 0, none⟩)) ∧ w'.cell? ⟨wr.heap.size, 0, none⟩ = some (.int .i64 x.lba) ∧ w'.cell? ⟨wr.heap.size, 1, none⟩ = some (.int .i64 x.len) ∧ w'.cell? ⟨wr.heap.size, 2, none⟩ = some (.int .i64 x.phys)) (first | exact hS _ (Keep.refl _ _) | exact hS _ k4) ((go_at_call 72; refine hch.mono ?_; rintro e w4 ⟨rfl, M4, k4⟩))
            have M5 := M3.to hq M4 k4
            clear hS hch L3 M3 hW L2
            go_wp2_with fail
            go_roundw
            case rel => exact ⟨j + 1, _, _, hlt', by go_num, hP2, M5⟩
            case measure => have : j < f.length := hlt'; simp [intOf]; omega
          · have hid : t.idOf x.lba = 0 := by
              by_cases c : t.idOf x.lba = 0
              · exact c
              · exact absurd (M1.mt.has.2 c) hh
            have hroom : ∃ n l', l = n :: l' := by
              have h1 := M1.mt.room
              have hP3 := PutI.ins hP M1.mt.ord hx hh 0
              have h2 := PutI.len hP3 (Tr.ins_ord M1.mt.ord hh) HU.1
              have h3 : (t.ins 0 x).runs.length = t.runs.length + 1 := by unfold Tr.runs; have := Tr.ins_len (n := 0) (v := x) (t := t); unfold Tr.ids at this; simpa using this
              have h4 := HU.2.2.2.2
              rw [Tr.runs_len] at h1
              rcases l with _ | ⟨n, l'⟩
              · simp at h1; omega
              · exact ⟨n, l', rfl⟩
            obtain ⟨n, l', rfl⟩ := hroom
            have hP2 : Hid (PutI (A ++ o ++ B) o f (j + 1) (t.ins n x)) := PutI.ins hP M1.mt.ord hx hh n
            have hch := M3.mt.changeNo x hid
            rw [rnA_lit] at hch
            clear hx hP hlt r2' M1 hh
            go_upto_region 9 with fail
            go_region_held3 (fun w' => w'.cell? ⟨q, 2, none⟩ = some (.pointer (some ⟨b, 0, none⟩)) ∧ w'.cell? ⟨wr.heap.size, 0, none⟩ = some (.int .i64 x.lba) ∧ w'.cell? ⟨wr.heap.size, 1, none⟩ = some (.int .i64 x.len) ∧ w'.cell? ⟨wr.heap.size, 2, none⟩ = some (.int .i64 x.phys)) (first | exact hS _ (Keep.refl _ _) | exact hS _ (k4.mono (fun _ _ e => e.elim))) ((go_at_call 72; refine hch.mono ?_; rintro e w4 ⟨rfl, k4⟩))
            have M5 : Mid w wa w4.drew q b p k N cap (n :: l') t := (M3.more k4).more ((Keep.refl _ _).drew)
            have L5 : Lrn w4.drew wr.heap.size x := L3.more (k4.drew)
            have hin := M5.mt.insert x hid
            rw [rnA_lit] at hin
            have hS5 : ∀ w', Keep (Own3 b p k) w4.drew w' → w'.cell? ⟨q, 2, none⟩ = some (.pointer (some ⟨b, 0, none⟩)) ∧ w'.cell? ⟨wr.heap.size, 0, none⟩ = some (.int .i64 x.lba) ∧ w'.cell? ⟨wr.heap.size, 1, none⟩ = some (.int .i64 x.len) ∧ w'.cell? ⟨wr.heap.size, 2, none⟩ = some (.int .i64 x.phys) := fun w' hk => ⟨by rw [← M5.top]; exact World.cell?_of_block (w := w4.drew) (a := ⟨q, 2, none⟩) (hk.block q (World.block_lt_of_cell? w4.drew _ M5.top) hq), (Blk.keep L5 hk hgO 0 (by omega)).1, (Blk.keep L5 hk hgO 1 (by omega)).1, (Blk.keep L5 hk hgO 2 (by omega)).1⟩
            clear hS hch L3 M3 hW L2
            go_upto_region 10 with fail
            go_region_held3 (fun w' => w'.cell? ⟨q, 2, none⟩ = some (.pointer (some ⟨b, 0, none⟩)) ∧ w'.cell? ⟨wr.heap.size, 0, none⟩ = some (.int .i64 x.lba) ∧ w'.cell? ⟨wr.heap.size, 1, none⟩ = some (.int .i64 x.len) ∧ w'.cell? ⟨wr.heap.size, 2, none⟩ = some (.int .i64 x.phys)) (first | exact hS5 _ (Keep.refl _ _) | exact hS5 _ k6) ((go_at_call 73; refine hin.mono ?_; rintro e w6 ⟨rfl, M6, k6⟩))
            have M7 := M5.to hq M6 k6
            clear hS5 hin L5 M5
            go_wp2_with fail
            go_roundw
            case rel => exact ⟨j + 1, _, _, hlt', by go_num, hP2, M7⟩
            case measure => have : j < f.length := hlt'; simp [intOf]; omega
        · have dj : ¬ (j : Int) < (f.length : Int) := by omega
          have ej : j = f.length := by omega
          subst ej
          have hE : Hid (t.runs = A ++ f ++ B) := PutI.end hP M1.mt.ord HU.2.1 HU.1
          clear hP hj hlt r2 s2
          go_wp2_with fail
          exact bodyPost_end (v := .tuple #[]) (results_none rfl _ _ _) rfl ⟨rfl, l, t, M1, by rw [← List.append_assoc]; exact hE⟩
end Tg
end Go.Proofs.Ytkddonmddgfpnaa
namespace Go.Proofs.Ytkddonmddgfpnaa
open Go.ChangeShapes Go.WideShapes Go.ChangeAt Go.RowKit
namespace Tg

/-- Bounds of a run. -/
def Bd (x : Rn) : Prop := 0 ≤ x.lba ∧ 0 ≤ x.phys ∧ 0 ≤ x.len ∧ x.lba + x.len ≤ 512 ∧ x.phys + x.len ≤ 1049088
theorem joinL_bd {l : List Rn} {r : Rn} (h : ∀ x ∈ l, Bd x) (hr : r.len < 1 ∨ Bd r) : ∀ x ∈ joinL l r, Bd x := by
  by_cases c : r.len < 1
  · rw [joinL_empty c]; exact h
  · have hr := hr.resolve_left c
    rcases snoc_cases l with rfl | ⟨a, y, rfl⟩
    · rw [joinL_nil (by omega)]
      intro x hx; simp at hx; subst hx; exact hr
    · by_cases g : y.fin = r.lba ∧ y.phys + y.len = r.phys
      · rw [joinL_glue (by omega) g]
        intro x hx
        rcases List.mem_append.1 hx with hx | hx
        · exact h x (by simp [hx])
        · simp at hx
          subst hx
          have hy := h y (by simp)
          unfold Bd Rn.fin at *
          simp only
          omega
      · rw [joinL_new (by omega) g]
        intro x hx
        rcases List.mem_append.1 hx with hx | hx
        · exact h x hx
        · simp at hx; subst hx; exact hr
theorem joins_bd : ∀ {c l : List Rn}, (∀ x ∈ l, Bd x) → (∀ x ∈ c, x.len < 1 ∨ Bd x) → ∀ x ∈ joins l c, Bd x
  | [], _, h, _ => h
  | r :: c, l, h, hc => by
    rw [joins_cons]
    exact joins_bd (joinL_bd h (hc r (by simp))) (fun x hx => hc x (by simp [hx]))
theorem joinL_len (l : List Rn) (r : Rn) : (joinL l r).length ≤ l.length + 1 := by
  by_cases c : r.len < 1
  · rw [joinL_empty c]; omega
  · rcases snoc_cases l with rfl | ⟨a, y, rfl⟩
    · rw [joinL_nil (by omega)]; simp
    · by_cases g : y.fin = r.lba ∧ y.phys + y.len = r.phys
      · rw [joinL_glue (by omega) g]; simp
      · rw [joinL_new (by omega) g]; simp
theorem joins_len : ∀ (c l : List Rn), (joins l c).length ≤ l.length + c.length
  | [], _ => by rw [joins_nil]; simp
  | r :: c, l => by
    rw [joins_cons]
    have := joins_len c (joinL l r)
    have := joinL_len l r
    simp; omega
theorem joins_next {l o : List Rn} {f : Rn → Rn} {i : Nat} {x : Rn} (hx : o[i]? = some x) : joins l ((o.take (i + 1)).map f) = joinL (joins l ((o.take i).map f)) (f x) := by
  rw [take_next hx, List.map_append, joins_app]; rfl
theorem part_bd {x : Rn} (hx : Bd x) {a c : Int} (ha : 0 ≤ a) (hc : c ≤ 512) : (partR x a c).len < 1 ∨ Bd (partR x a c) := by
  unfold Bd partR at *
  simp only
  omega
theorem wide {m : List Rn} (h : ∀ x ∈ m, Bd x) : ∀ x ∈ m, 0 ≤ x.lba ∧ x.lba ≤ 100000000 ∧ 0 ≤ x.phys ∧ x.phys ≤ 100000000 ∧ 0 ≤ x.len ∧ x.len ≤ 100000000 := fun x hx => by
  have := h x hx; unfold Bd at this; omega
theorem load_run49 {w : World} {g : Nat} {x : Rn} (h : Lrn w g x) : (Instr.loadAt 34 (.pointer (some ⟨g, 0, none⟩))).run Try.prog w = .ok (.agg #[.int .i64 x.lba, .int .i64 x.len, .int .i64 x.phys]) w := by
  have := loadAt_rn h (o := 0) (by omega) (fun i _ => by rw [Nat.zero_add])
  rwa [rnA_lit] at this
set_option maxRecDepth 100000 in
theorem call50 (args : Array Value) (w : World) : (callFunc 58 args).run Try.prog w = .ok (.enter 58 args) w := enters Try.func58 (by kernel_rfl) (by kernel_rfl) args w
set_option maxRecDepth 100000 in
theorem call51 (args : Array Value) (w : World) : (callFunc 59 args).run Try.prog w = .ok (.enter 59 args) w := enters Try.func59 (by kernel_rfl) (by kernel_rfl) args w

set_option maxRecDepth 100000 in
set_option maxHeartbeats 1000000 in
theorem lay_any {w wa : World} {q b p k N cap : Nat} {m : List Rn} (h : Mp w wa q b p k N cap m) {lo hi : Int} (h0 : 0 ≤ lo) (h1 : lo < hi) (h2 : hi ≤ (cap : Int)) {ins A F B : List Rn} (hL : Laid lo hi (cap : Int) ins m A F B) (hb : ∀ x ∈ ins, Bd x) (hil : ins.length ≤ 1) (hlim : Lim (cap : Int) 1049088 (A ++ F ++ B))
    {aI : Option Addr} {cI : Nat} (rI : Rs wa aI cI ins) :
    Calls Try.prog 53 #[.pointer (some ⟨q, 0, none⟩), .int .i64 lo, .int .i64 hi, .slice aI ins.length cI] wa fun e w' => ((A ++ F ++ B).length ≤ N ∧ e = .returned (.int .i64 0) ∧ Mp w w' q b p k N cap (A ++ F ++ B) ∧ Keep (Own3 b p k) wa w') ∨ (N < (A ++ F ++ B).length ∧ e = .returned (.int .i64 5) ∧ Keep (fun _ => False) wa w') := by
  have hcap := h.cap2
  have hnear := near_any h h0 h1 (by omega)
  have hF := hL.fresh
  unfold freshL at hF
  have hspl := hL.split
  have hol : (nearL lo hi m).length ≤ m.length := List.length_filter_le _ _
  have hbo : ∀ x ∈ nearL lo hi m, Bd x := fun x hx => by
    have := h.run (List.mem_filter.1 hx).1
    unfold Bd; omega
  have hml := h.len
  have hN2 := h.N2
  generalize nearL lo hi m = o at hnear hF hspl hol hbo
  have hcI := rI.1
  have hHide : Hid (Laid lo hi (cap : Int) ins m A F B ∧ F = joins (joins (joins [] (o.map (fun x => partR x 0 lo))) ins) (o.map (fun x => partR x hi cap)) ∧ m = A ++ o ++ B) := ⟨hL, hF, hspl⟩
  have hbo' : Hid (∀ x ∈ o, Bd x) := hbo
  have hbI' : Hid (∀ x ∈ ins, Bd x) := hb
  have hol' : o.length ≤ 512 := by omega
  clear hL hF hspl hbo hb hol
  go_enter Try.func53, Try.ntmps53
  go_wp2_with (go_at_call 57; refine hnear.mono ?_; rintro e w1 ⟨ao, co, rfl, Ro⟩)
  clear hnear
  have M1 := h.more Ro.keep
  have rI1 := rI.more Ro.keep
  have rO1 := Ro.rs
  have hco := rO1.1
  have R0 : Rr w1 w1 none 0 (joins [] ((o.take 0).map (fun x => partR x 0 lo))) := Rr.nil w1
  go_loopw [10, 23] (fun lv iv wx => ∃ (i : Nat) (fa : Option Addr) (fc : Nat), i ≤ o.length ∧ lv = .slice fa (joins [] ((o.take i).map (fun x => partR x 0 lo))).length fc ∧ iv = .int .i64 (i : Int) ∧ Rr w1 wx fa fc (joins [] ((o.take i).map (fun x => partR x 0 lo)))) (fun _ iv _ => o.length - (intOf iv).toNat)
  case atStart => exact ⟨0, none, 0, by omega, rfl, rfl, R0⟩
  case round =>
    clear R0
    obtain ⟨i, fa, fc, hi1, rfl, rfl, R2⟩ := hrel
    by_cases hlt : i < o.length
    · obtain ⟨x, hx⟩ := get_rn hlt
      have hxb : Bd x := hbo' x (List.mem_of_getElem? hx)
      have di : (i : Int) < (o.length : Int) := by omega
      have dw := wrapI (x := (i : Int) + 1) (by omega) (by omega)
      obtain ⟨g, rfl, e0, e1, e2⟩ := (rO1.more R2.keep).at hx
      have K3 : Keep (fun _ => False) wr (wr.alloc (.cells (rnA x) 34)) := (Keep.refl _ _).alloc _
      have L3 := Lrn.new wr x
      have hbd := wide (joins_bd (l := []) (c := (o.take i).map (fun x => partR x 0 lo)) (by simp) (fun y hy => by obtain ⟨z, hz, rfl⟩ := List.mem_map.1 hy; exact part_bd (hbo' z (List.mem_of_mem_take hz)) (by omega) (by omega)))
      have hlen : (joins [] ((o.take i).map (fun x => partR x 0 lo))).length ≤ 100000 := by have := joins_len ((o.take i).map (fun x => partR x 0 lo)) []; rw [List.length_map, List.length_take, List.length_nil] at this; omega
      have hpart := fun w3 => part_any w3 x 0 lo (by unfold Bd at hxb; omega) (by omega) (by omega)
      have hzl : (partR x 0 lo).len ≤ 100000000 := by have := part_bd hxb (a := 0) (c := lo) (by omega) (by omega); unfold Bd at this; omega
      have hnx : Hid (joins [] ((o.take (i + 1)).map (fun x => partR x 0 lo)) = joinL (joins [] ((o.take i).map (fun x => partR x 0 lo))) (partR x 0 lo)) := joins_next hx
      have hlt' : Hid (i < o.length) := hlt
      generalize joins [] ((o.take i).map (fun x => partR x 0 lo)) = J at R2 hbd hlen hnx ⊢
      have R3 := R2.more K3
      generalize hW : wr.alloc (.cells (rnA x) 34) = w3 at K3 L3 R3
      rw [rnA_lit] at hW
      generalize partR x 0 lo = z at hpart hzl hnx
      have hp3 := hpart w3
      rw [rnA_lit, rnA_lit] at hp3
      obtain ⟨p0, p1, p2⟩ := L3.c
      have hj := fun (w4 : World) (k4 : Keep (fun _ => False) w3 w4) => rjoin_any (R3.more k4) z hlen hbd hzl
      simp only [rnA_lit] at hj
      clear hx hlt hxb h hpart hbd hlen hzl
      go_wp2_with (first | (go_at_call 59; refine hp3.mono ?_; rintro e w4 ⟨rfl, k4⟩) | (go_at_call 58; refine (hj _ k4).mono ?_; rintro e w5 ⟨fa', fc', rfl, R5⟩))
      rw [← (show joins [] ((o.take (i + 1)).map (fun x => partR x 0 lo)) = _ from hnx)] at R5 ⊢
      go_roundw
      case rel => exact ⟨i + 1, fa', fc', hlt', rfl, by go_num, R5⟩
      case measure => have : i < o.length := hlt'; simp [intOf]; omega
    · have di : ¬ (i : Int) < (o.length : Int) := by omega
      have ei : i = o.length := by omega
      subst ei
      rw [List.take_length] at R2 ⊢
      have hb1 : Hid (∀ x ∈ joins [] (o.map (fun x => partR x 0 lo)), Bd x) := joins_bd (l := []) (by simp) (fun y hy => by obtain ⟨z, hz, rfl⟩ := List.mem_map.1 hy; exact part_bd (hbo' z hz) (by omega) (by omega))
      have hl1 : (joins [] (o.map (fun x => partR x 0 lo))).length ≤ 512 := by have := joins_len (o.map (fun x => partR x 0 lo)) []; simp at this; omega
      generalize hF1 : joins [] (o.map (fun x => partR x 0 lo)) = F1 at R2 hb1 hl1 ⊢
      clear hi1 hlt
      go_wp2_with fail
      have R0 : Rr w1 wr fa fc (joins F1 (ins.take 0)) := R2
      clear R2
      go_loopw [10, 35] (fun lv iv wx => ∃ (i : Nat) (fa : Option Addr) (fc : Nat), i ≤ ins.length ∧ lv = .slice fa (joins F1 (ins.take i)).length fc ∧ iv = .int .i64 (i : Int) ∧ Rr w1 wx fa fc (joins F1 (ins.take i))) (fun _ iv _ => ins.length - (intOf iv).toNat)
      case atStart => exact ⟨0, fa, fc, by omega, rfl, rfl, R0⟩
      case round =>
        clear R0
        obtain ⟨i, fa, fc, hi1, rfl, rfl, R2⟩ := hrel
        by_cases hlt : i < ins.length
        · obtain ⟨x, hx⟩ := get_rn hlt
          have hxb : Bd x := hbI' x (List.mem_of_getElem? hx)
          have di2 : (i : Int) < (ins.length : Int) := by omega
          have dw := wrapI (x := (i : Int) + 1) (by omega) (by omega)
          obtain ⟨g, rfl, e0, e1, e2⟩ := (rI1.more R2.keep).at hx
          have K3 : Keep (fun _ => False) wr (wr.alloc (.cells (rnA x) 34)) := (Keep.refl _ _).alloc _
          have L3 := Lrn.new wr x
          have hbd := wide (joins_bd (l := F1) (c := ins.take i) hb1 (fun y hy => Or.inr (hbI' y (List.mem_of_mem_take hy))))
          have hlen : (joins F1 (ins.take i)).length ≤ 100000 := by have := joins_len (ins.take i) F1; rw [List.length_take] at this; omega
          have hzl : x.len ≤ 100000000 := by unfold Bd at hxb; omega
          have hnx : Hid (joins F1 (ins.take (i + 1)) = joinL (joins F1 (ins.take i)) x) := by show joins F1 (ins.take (i + 1)) = _; rw [take_next hx, joins_app]; rfl
          have hlt' : Hid (i < ins.length) := hlt
          generalize joins F1 (ins.take i) = J at R2 hbd hlen hnx ⊢
          have R3 := R2.more K3
          generalize hW : wr.alloc (.cells (rnA x) 34) = w3 at K3 L3 R3
          rw [rnA_lit] at hW
          obtain ⟨p0, p1, p2⟩ := L3.c
          have hj := rjoin_any R3 x hlen hbd hzl
          simp only [rnA_lit] at hj
          clear hx hlt hxb h hbd hlen hzl
          go_wp2_with (go_at_call 58; refine hj.mono ?_; rintro e w5 ⟨fa', fc', rfl, R5⟩)
          rw [← (show joins F1 (ins.take (i + 1)) = _ from hnx)] at R5 ⊢
          go_roundw
          case rel => exact ⟨i + 1, fa', fc', hlt', rfl, by go_num, R5⟩
          case measure => have : i < ins.length := hlt'; simp [intOf]; omega
        · have di2 : ¬ (i : Int) < (ins.length : Int) := by omega
          have ei : i = ins.length := by omega
          subst ei
          rw [List.take_length] at R2 ⊢
          have hb2 : Hid (∀ x ∈ joins F1 ins, Bd x) := joins_bd hb1 (fun y hy => Or.inr (hbI' y hy))
          have hl2 : (joins F1 ins).length ≤ 513 := by have := joins_len ins F1; omega
          generalize hF2 : joins F1 ins = F2 at R2 hb2 hl2 ⊢
          clear hi1 hlt
          go_wp2_with fail
          have R0 : Rr w1 wr fa fc (joins F2 ((o.take 0).map (fun x => partR x hi cap))) := R2
          clear R2
          go_loopw [10, 45] (fun lv iv wx => ∃ (i : Nat) (fa : Option Addr) (fc : Nat), i ≤ o.length ∧ lv = .slice fa (joins F2 ((o.take i).map (fun x => partR x hi cap))).length fc ∧ iv = .int .i64 (i : Int) ∧ Rr w1 wx fa fc (joins F2 ((o.take i).map (fun x => partR x hi cap)))) (fun _ iv _ => o.length - (intOf iv).toNat)
          case atStart => exact ⟨0, fa, fc, by omega, rfl, rfl, R0⟩
          case round =>
            clear R0
            obtain ⟨i, fa, fc, hi1, rfl, rfl, R2⟩ := hrel
            by_cases hlt : i < o.length
            · obtain ⟨x, hx⟩ := get_rn hlt
              have hxb : Bd x := hbo' x (List.mem_of_getElem? hx)
              have di3 : (i : Int) < (o.length : Int) := by omega
              have dw := wrapI (x := (i : Int) + 1) (by omega) (by omega)
              obtain ⟨g, rfl, e0, e1, e2⟩ := (rO1.more R2.keep).at hx
              have K3 : Keep (fun _ => False) wr (wr.alloc (.cells (rnA x) 34)) := (Keep.refl _ _).alloc _
              have L3 := Lrn.new wr x
              have hbd := wide (joins_bd (l := F2) (c := (o.take i).map (fun x => partR x hi cap)) hb2 (fun y hy => by obtain ⟨z, hz, rfl⟩ := List.mem_map.1 hy; exact part_bd (hbo' z (List.mem_of_mem_take hz)) (by omega) (by omega)))
              have hlen : (joins F2 ((o.take i).map (fun x => partR x hi cap))).length ≤ 100000 := by have := joins_len ((o.take i).map (fun x => partR x hi cap)) F2; rw [List.length_map, List.length_take] at this; omega
              have hpart := fun w3 => part_any w3 x hi cap (by unfold Bd at hxb; omega) (by omega) (by omega)
              have hzl : (partR x hi cap).len ≤ 100000000 := by have := part_bd hxb (a := hi) (c := cap) (by omega) (by omega); unfold Bd at this; omega
              have hnx : Hid (joins F2 ((o.take (i + 1)).map (fun x => partR x hi cap)) = joinL (joins F2 ((o.take i).map (fun x => partR x hi cap))) (partR x hi cap)) := joins_next hx
              have hlt' : Hid (i < o.length) := hlt
              generalize joins F2 ((o.take i).map (fun x => partR x hi cap)) = J at R2 hbd hlen hnx ⊢
              have R3 := R2.more K3
              generalize hW : wr.alloc (.cells (rnA x) 34) = w3 at K3 L3 R3
              rw [rnA_lit] at hW
              generalize partR x hi cap = z at hpart hzl hnx
              have hp3 := hpart w3.drew
              rw [rnA_lit, rnA_lit] at hp3
              have hj := fun (w4 : World) (k4 : Keep (fun _ => False) w3.drew w4) => rjoin_any ((R3.more ((Keep.refl _ _).drew)).more k4) z hlen hbd hzl
              simp only [rnA_lit] at hj
              have M3 := M1.more R3.keep
              have c3 : w3.drew.cell? ⟨q, 0, none⟩ = some (.int .i64 (cap : Int)) := M3.tops.1
              have L3d : Lrn w3.drew wr.heap.size x := L3
              clear hx hlt hxb h hpart hbd hlen hzl
              go_upto_region 16 with fail
              refine wp_region_noPanic ?_
              refine wp_region_held_drew (S := fun wz => wz.cell? ⟨q, 0, none⟩ = some (.int .i64 (cap : Int))) (by kernel_rfl) (c3) (fun hH0 => ?_)
              refine' wpAnyH_take (i := 0) (oi := { dst := some 49, op := Op.move (Operand.tmp 10), type := 32, pos := "runs.go:128", after := #[], guard := none }) (v := _) rfl (by kernel_rfl) (by kernel_rfl) (by kernel_rfl) (fun _ _ _ h => h) (Or.inl ⟨by rfl, ?hy0⟩) hH0 ?r0
              case hy0 => (intro w' hSw; clear hSw; go_simp; try with_reducible rfl)
              simp only [Act.put, List.setIfInBounds_toArray, List.set_cons_zero, List.set_cons_succ]
              refine' wpAnyH_take (i := 2) (oi := { dst := some 51, op := Op.move (Operand.tmp 2), type := 3, pos := "runs.go:128", after := #[], guard := none }) (v := _) rfl (by kernel_rfl) (by kernel_rfl) (by kernel_rfl) (fun _ _ _ h => h) (Or.inl ⟨by rfl, ?hy2⟩) hH0 ?r2
              case hy2 => (intro w' hSw; clear hSw; go_simp; try with_reducible rfl)
              simp only [Act.put, List.setIfInBounds_toArray, List.set_cons_zero, List.set_cons_succ]
              refine' wpAnyH_take (i := 3) (oi := { dst := some 52, op := Op.move (Operand.tmp 0), type := 44, pos := "runs.go:128", after := #[], guard := none }) (v := _) rfl (by kernel_rfl) (by kernel_rfl) (by kernel_rfl) (fun _ _ _ h => h) (Or.inl ⟨by rfl, ?hy3⟩) hH0 ?r3
              case hy3 => (intro w' hSw; clear hSw; go_simp; try with_reducible rfl)
              simp only [Act.put, List.setIfInBounds_toArray, List.set_cons_zero, List.set_cons_succ]
              refine' wpAnyH_take (i := 4) (oi := { dst := some 53, op := Op.nilCheck (Operand.tmp 52), type := 0, pos := "runs.go:128", after := #[{ on := 3, ground := Ground.data }], guard := none }) (v := _) rfl (by kernel_rfl) (by kernel_rfl) (by kernel_rfl) (fun _ _ _ h => h) (Or.inl ⟨by rfl, ?hy4⟩) hH0 ?r4
              case hy4 => (intro w' hSw; clear hSw; go_simp; try with_reducible rfl)
              simp only [Act.put, List.setIfInBounds_toArray, List.set_cons_zero, List.set_cons_succ]
              refine' wpAnyH_take (i := 5) (oi := { dst := some 54, op := Op.fieldAddr 77 (Operand.tmp 53) 0, type := 0, pos := "runs.go:128", after := #[{ on := 4, ground := Ground.data }], guard := none }) (v := _) rfl (by kernel_rfl) (by kernel_rfl) (by kernel_rfl) (fun _ _ _ h => h) (Or.inl ⟨by rfl, ?hy5⟩) hH0 ?r5
              case hy5 => (intro w' hSw; clear hSw; go_simp; try with_reducible rfl)
              simp only [Act.put, List.setIfInBounds_toArray, List.set_cons_zero, List.set_cons_succ]
              refine' wpAnyH_take (i := 6) (oi := { dst := some 55, op := Op.load 3 (Operand.tmp 54), type := 3, pos := "runs.go:128", after := #[{ on := 5, ground := Ground.data }], guard := none }) (v := _) rfl (by kernel_rfl) (by kernel_rfl) (by kernel_rfl) (fun _ _ _ h => h) (Or.inl ⟨by rfl, ?hy6⟩) hH0 ?r6
              case hy6 => (intro w' hSw; go_simp; try with_reducible rfl)
              simp only [Act.put, List.setIfInBounds_toArray, List.set_cons_zero, List.set_cons_succ]
              refine wpAnyH_ready (rs := [1]) (by kernel_rfl) (by simp) ?_
              refine AllReadyH.cons (o := { dst := some 50, op := Op.load 34 (Operand.tmp 16), type := 34, pos := "runs.go:128", after := #[], guard := none }) rfl (fun K hK => ?_) AllReadyH.nil
              refine step_load_run (by rfl) 34 (.tmp 16) rfl (by rfl) (load_run49 L3d) ?_
              refine hK.out _ _ (c3) (fun hH1 => ?_)
              clear hK K hH0
              simp only [Act.put, List.setIfInBounds_toArray, List.set_cons_zero, List.set_cons_succ]
              refine wpAnyH_ready (rs := [7]) (by kernel_rfl) (by simp) ?_
              refine AllReadyH.cons (o := { dst := some 56, op := Op.call { callee := Callee.value (Operand.func 59), args := #[Operand.tmp 50, Operand.tmp 51, Operand.tmp 55], argTypes := #[34, 3, 3] }, type := 34, pos := "runs.go:128", after := #[{ on := 1, ground := Ground.data }, { on := 2, ground := Ground.data }, { on := 6, ground := Ground.data }], guard := none }) rfl (fun K hK => ?_) AllReadyH.nil
              refine step_call_want (vs := #[.agg #[.int .i64 x.lba, .int .i64 x.len, .int .i64 x.phys], .int .i64 hi, .int .i64 (cap : Int)]) (R := fun u wz => u = .agg #[.int .i64 z.lba, .int .i64 z.len, .int .i64 z.phys] ∧ Keep (fun _ => False) w3.drew wz) (by rfl) 59 #[Operand.tmp 50, Operand.tmp 51, Operand.tmp 55] #[34, 3, 3] rfl (by simp [Act.eval]) call51 (post_of hp3) ?_
              rintro _ w4 ⟨rfl, k4⟩
              refine hK.out _ _ ((M3.more (((Keep.refl (fun _ => False) w3).drew).trans k4)).tops.1) (fun hH2 => ?_)
              clear hK K hH1
              simp only [Act.put, List.setIfInBounds_toArray, List.set_cons_zero, List.set_cons_succ]
              refine wpAnyH_ready (rs := [8]) (by kernel_rfl) (by simp) ?_
              refine AllReadyH.cons (o := { dst := some 57, op := Op.call { callee := Callee.value (Operand.func 58), args := #[Operand.tmp 49, Operand.tmp 56], argTypes := #[32, 34] }, type := 32, pos := "runs.go:128", after := #[{ on := 0, ground := Ground.data }, { on := 7, ground := Ground.data }, { on := 7, ground := Ground.chain }], guard := none }) rfl (fun K hK => ?_) AllReadyH.nil
              refine step_call_want (vs := #[.slice fa J.length fc, .agg #[.int .i64 z.lba, .int .i64 z.len, .int .i64 z.phys]]) (R := fun u wz => ∃ a' c', u = .slice a' (joinL J z).length c' ∧ Rr w1 wz a' c' (joinL J z)) (by rfl) 58 #[Operand.tmp 49, Operand.tmp 56] #[32, 34] rfl (by simp [Act.eval]) call50 ((hj _ k4).mono (by rintro e wz ⟨a', c', rfl, hR⟩; exact ⟨_, rfl, a', c', rfl, hR⟩)) ?_
              rintro _ w5 ⟨fa', fc', rfl, R5⟩
              refine hK.out _ _ ((M1.more R5.keep).tops.1) (fun hH3 => ?_)
              clear hK K hH2
              simp only [Act.put, List.setIfInBounds_toArray, List.set_cons_zero, List.set_cons_succ]
              refine' wpAnyH_take (i := 9) (oi := { dst := some 10, op := Op.assign (Operand.tmp 57), type := 32, pos := "runs.go:128", after := #[{ on := 8, ground := Ground.data }, { on := 8, ground := Ground.chain }, { on := 0, ground := Ground.phase }, { on := 1, ground := Ground.phase }, { on := 2, ground := Ground.phase }, { on := 3, ground := Ground.phase }, { on := 4, ground := Ground.phase }, { on := 5, ground := Ground.phase }, { on := 6, ground := Ground.phase }, { on := 7, ground := Ground.phase }, { on := 8, ground := Ground.phase }], guard := none }) (v := _) rfl (by kernel_rfl) (by kernel_rfl) (by kernel_rfl) (fun _ _ _ h => h) (Or.inl ⟨by rfl, ?hy9⟩) hH3 ?r9
              case hy9 => (intro w' hSw; clear hSw; go_simp; try with_reducible rfl)
              simp only [Act.put, List.setIfInBounds_toArray, List.set_cons_zero, List.set_cons_succ]
              refine wpAnyH_done (by kernel_rfl) ?_ _
              refine NoPanic.normal ?_
              clear hp3 hj M3 c3 L3 L3d R3
              rw [← (show joins F2 ((o.take (i + 1)).map (fun x => partR x hi cap)) = _ from hnx)] at R5 ⊢
              go_wp2_with fail
              go_roundw
              case rel => exact ⟨i + 1, fa', fc', hlt', rfl, by go_num, R5⟩
              case measure => have : i < o.length := hlt'; simp [intOf]; omega
            · have di3 : ¬ (i : Int) < (o.length : Int) := by omega
              have ei : i = o.length := by omega
              subst ei
              rw [List.take_length] at R2 ⊢
              obtain ⟨hL, hF, hspl⟩ := hHide
              have hF3 : joins F2 (o.map (fun x => partR x hi cap)) = F := by rw [hF, ← hF2, ← hF1]
              rw [hF3] at R2 ⊢
              clear hF3 hF hF1 hF2 hb1 hb2 hl1 hl2 hi1 hlt
              have hfl : F.length ≤ 100000 := by have := hL.len; omega
              have Mf := M1.more R2.keep
              have hcount := count_any Mf
              have hmost := most_any Mf
              have hAB : m.length = A.length + o.length + B.length := by rw [hspl]; simp; omega
              have hNl : (A ++ F ++ B).length = A.length + F.length + B.length := by simp; omega
              have hAB' : Hid (m.length = A.length + o.length + B.length) := hAB
              have hNl' : Hid ((A ++ F ++ B).length = A.length + F.length + B.length) := hNl
              have d1 := wrapI (x := (m.length : Int) - o.length) (by omega) (by omega)
              have d2 := wrapI (x := (m.length : Int) - o.length + F.length) (by omega) (by omega)
              have hL' : Hid (Laid lo hi (cap : Int) ins m A F B ∧ m = A ++ o ++ B) := ⟨hL, hspl⟩
              by_cases hfull : N < (A ++ F ++ B).length
              · have hb : (N : Int) < (m.length : Int) - o.length + F.length := by omega
                have hfull' : Hid (N < (A ++ F ++ B).length) := hfull
                have KK := Ro.keep.trans R2.keep
                clear hL hspl hAB hNl hfull h M1 Mf
                go_wp2_with (first | (go_at_call 60; refine hcount.mono ?_; rintro e w6 ⟨rfl, e6⟩; have e6 := e6.symm; subst e6) | (go_at_call 61; refine hmost.mono ?_; rintro e w6 ⟨rfl, e6⟩; have e6 := e6.symm; subst e6))
                go_ret
                exact Or.inr ⟨hfull', rfl, KK⟩
              · have hb : ¬ (N : Int) < (m.length : Int) - o.length + F.length := by omega
                have hNN : (A ++ F ++ B).length ≤ N := by omega
                have hNN' : Hid ((A ++ F ++ B).length ≤ N) := hNN
                have hlt0 := h.lt
                have hlt1 := M1.lt
                have hq : ¬ Own3 b p k q := by
                  rintro (e | e | e)
                  · exact h.qb e
                  · exact h.qp e
                  · exact h.qk e
                obtain ⟨l, t, hT, ht⟩ := Mf.ex
                have hsw := swap_any (A := A) (o := o) (f := F) (B := B) (q := q) (cap := cap) ⟨hT, Mf.tops.2.2, Keep.refl _ _⟩ hq (by rw [ht, hspl]) hL.form.up hNN hN2 (rO1.more R2.keep) R2.rs
                  (fun g e => by have := (Ro.block e).1; rintro (e | e | e) <;> omega) (fun g e => by have := (R2.block e).1; have := Ro.keep.size; rintro (e | e | e) <;> omega)
                have hMk : ∀ w', (∃ l t, Mid w wr w' q b p k N cap l t ∧ t.runs = A ++ F ++ B) → Mp w w' q b p k N cap (A ++ F ++ B) ∧ Keep (Own3 b p k) wa w' := by
                  rintro w' ⟨l', t', hM', ht'⟩
                  exact ⟨⟨⟨l', t', hM'.mt, ht'⟩, Mf.top.keep hM'.keep hq, h.qw, h.qb, h.qp, h.qk, hL.form, hlim, h.cap1, h.cap2, h.N1, h.N2⟩, ((Ro.keep.trans R2.keep).mono (fun _ _ e => e.elim)).trans hM'.keep⟩
                have hMk' : Hid (∀ w', (∃ l t, Mid w wr w' q b p k N cap l t ∧ t.runs = A ++ F ++ B) → Mp w w' q b p k N cap (A ++ F ++ B) ∧ Keep (Own3 b p k) wa w') := hMk
                have hsw' := hsw.mono (R' := fun e w' => e = .returned (.tuple #[]) ∧ Hid (∃ l t, Mid w wr w' q b p k N cap l t ∧ t.runs = A ++ F ++ B)) (by rintro e w' ⟨h1, h2⟩; exact ⟨h1, h2⟩)
                clear hL hspl hAB hNl hfull h M1 Mf hMk hT ht hsw hNN
                go_wp2_with (first | (go_at_call 60; refine hcount.mono ?_; rintro e w6 ⟨rfl, e6⟩; have e6 := e6.symm; subst e6) | (go_at_call 61; refine hmost.mono ?_; rintro e w6 ⟨rfl, e6⟩; have e6 := e6.symm; subst e6) | (go_at_call 62; refine hsw'.mono ?_; rintro e w7 ⟨rfl, hE⟩))
                go_ret
                exact Or.inl ⟨hNN', rfl, hMk' _ hE⟩
end Tg
end Go.Proofs.Ytkddonmddgfpnaa
namespace Go.Proofs.Ytkddonmddgfpnaa
open Go.ChangeShapes Go.WideShapes Go.ChangeAt Go.RowKit
namespace Tg

/-- What a change answers and leaves: it is done, or there are too many runs. -/
def Did (w wa : World) (q b p k N cap : Nat) (m' : List Rn) (e : Ending) (w' : World) : Prop :=
  (m'.length ≤ N ∧ e = .returned (.int .i64 0) ∧ Mp w w' q b p k N cap m' ∧ Keep (Own3 b p k) wa w') ∨ (N < m'.length ∧ e = .returned (.int .i64 5) ∧ Keep (fun _ => False) wa w')

set_option maxRecDepth 100000 in
theorem set_no {w wa : World} {q b p k N cap : Nat} {m : List Rn} (h : Mp w wa q b p k N cap m) {lba n phys : Int} (hl : lba ≤ 9223372036854775807) (hno : okR (cap : Int) lba n = false ∨ phys < 0 ∨ 1048576 < phys) :
    Calls Try.prog 46 #[.pointer (some ⟨q, 0, none⟩), .int .i64 lba, .int .i64 n, .int .i64 phys] wa fun e w' => e = .returned (.int .i64 1) ∧ Keep (fun _ => False) wa w' := by
  have hr := right_any h lba n hl
  have K0 := Keep.refl (fun _ => False) wa
  clear h
  cases hok : okR (cap : Int) lba n with
  | false =>
    rw [hok] at hr
    clear hno
    go_enter Try.func46, Try.ntmps46
    go_wp2_with (go_at_call 52; refine hr.mono ?_; rintro e w1 ⟨rfl, rfl⟩)
    go_ret
    exact ⟨rfl, K0⟩
  | true =>
    rw [hok] at hr hno
    by_cases c : phys < 0
    · clear hno
      go_enter Try.func46, Try.ntmps46
      go_wp2_with (go_at_call 52; refine hr.mono ?_; rintro e w1 ⟨rfl, rfl⟩)
      go_ret
      exact ⟨rfl, K0⟩
    · have c2 : 1048576 < phys := by rcases hno with h | h | h; cases h; omega; exact h
      clear hno
      go_enter Try.func46, Try.ntmps46
      go_wp2_with (go_at_call 52; refine hr.mono ?_; rintro e w1 ⟨rfl, rfl⟩)
      go_ret
      exact ⟨rfl, K0⟩
set_option maxRecDepth 100000 in
theorem clear_no {w wa : World} {q b p k N cap : Nat} {m : List Rn} (h : Mp w wa q b p k N cap m) {lba n : Int} (hl : lba ≤ 9223372036854775807) (hno : okR (cap : Int) lba n = false) :
    Calls Try.prog 107 #[.pointer (some ⟨q, 0, none⟩), .int .i64 lba, .int .i64 n] wa fun e w' => e = .returned (.int .i64 1) ∧ Keep (fun _ => False) wa w' := by
  have hr := right_any h lba n hl
  have K0 := Keep.refl (fun _ => False) wa
  rw [hno] at hr
  clear h
  go_enter Try.func107, Try.ntmps107
  go_wp2_with (go_at_call 52; refine hr.mono ?_; rintro e w1 ⟨rfl, rfl⟩)
  go_ret
  exact ⟨rfl, K0⟩

set_option maxRecDepth 100000 in
set_option maxHeartbeats 1000000 in
theorem set_map {w wa : World} {q b p k N cap : Nat} {m : List Rn} (h : Mp w wa q b p k N cap m) {r : Rn} (h0 : 0 ≤ r.lba) (h1 : 1 ≤ r.len) (h2 : r.lba + r.len ≤ (cap : Int)) (h3 : 0 ≤ r.phys) (h4 : r.phys ≤ 1048576) :
    Calls Try.prog 46 #[.pointer (some ⟨q, 0, none⟩), .int .i64 r.lba, .int .i64 r.len, .int .i64 r.phys] wa (Did w wa q b p k N cap (setL r m)) := by
  have hcap := h.cap2
  have hr := right_any h r.lba r.len (by omega)
  rw [okR_iff.2 ⟨h1, h0, by omega⟩] at hr
  have hro : r.Ok := ⟨h0, h1, h3⟩
  have hf : r.fin = r.lba + r.len := rfl
  obtain ⟨A, F, B, hL⟩ := laid (lo := r.lba) (hi := r.fin) (cap := (cap : Int)) (ins := [r]) h0 (by rw [hf]; omega) h.form (fun x hx => (h.lim x hx).1) (Form.single hro) (fun x hx => by simp at hx; subst hx; exact ⟨Int.le_refl _, Int.le_refl _⟩)
  have hE := hL.set hro h.form
  have hlim : Lim (cap : Int) 1049088 (A ++ F ++ B) := by
    rw [hE]
    have := h.lim.chg h.form (x := r) h0 h1 (by rw [hf]; exact h2) (fun _ => by omega)
    rwa [chg, if_neg (by omega)] at this
  have K1 : Keep (fun _ => False) wa (wa.alloc (.cells (rnA r) 34)) := (Keep.refl _ _).alloc _
  have rI : Rs (wa.alloc (.cells (rnA r) 34)) (some ⟨wa.heap.size, 0, none⟩) 1 [r] := ⟨by simp, by omega, Or.inr ⟨_, rfl, fun j u hu => by have := cells_new wa (rnA r) 34 j u (by rw [rnA_lit]; simpa [rcells, rcs] using hu); rwa [Addr.add_lit, Nat.zero_add] at this⟩⟩
  have hlay := lay_any (h.more K1) h0 (by rw [hf]; omega) (by rw [hf]; exact h2) hL (fun x hx => by simp at hx; subst hx; unfold Bd; omega) (by simp) hlim rI
  rw [hE, hf, List.length_singleton] at hlay
  have d1 := wrapI (x := r.lba + r.len) (by omega) (by omega)
  have hlay' := hlay.mono (R' := Did w wa q b p k N cap (setL r m)) (by
    rintro e w' (⟨a1, a2, a3, a4⟩ | ⟨a1, a2, a3⟩)
    · exact Or.inl ⟨a1, a2, a3, (K1.mono (fun _ _ e => e.elim)).trans a4⟩
    · exact Or.inr ⟨a1, a2, K1.trans a3⟩)
  rw [rnA_lit] at hlay'
  clear h hL hE hlim K1 rI hlay hro hf
  have p1 : ¬ r.phys < 0 := by omega
  have p2 : ¬ 1048576 < r.phys := by omega
  go_enter Try.func46, Try.ntmps46
  go_wp2_with (first | (go_at_call 52; refine hr.mono ?_; rintro e w1 ⟨rfl, rfl⟩) | (go_at_call 53; refine hlay'.mono ?_; rintro e w1 hD; rcases hD with ⟨a1, rfl, a3, a4⟩ | ⟨a1, rfl, a3⟩))
  · go_ret
    exact Or.inl ⟨a1, rfl, a3, a4⟩
  · go_wp2_with fail
    go_ret
    exact Or.inr ⟨a1, rfl, a3⟩
set_option maxRecDepth 100000 in
set_option maxHeartbeats 1000000 in
theorem clear_map {w wa : World} {q b p k N cap : Nat} {m : List Rn} (h : Mp w wa q b p k N cap m) {lba n : Int} (h0 : 0 ≤ lba) (h1 : 1 ≤ n) (h2 : lba + n ≤ (cap : Int)) :
    Calls Try.prog 107 #[.pointer (some ⟨q, 0, none⟩), .int .i64 lba, .int .i64 n] wa (Did w wa q b p k N cap (clearL lba (lba + n) m)) := by
  have hcap := h.cap2
  have hr := right_any h lba n (by omega)
  rw [okR_iff.2 ⟨h1, h0, by omega⟩] at hr
  obtain ⟨A, F, B, hL⟩ := laid (lo := lba) (hi := lba + n) (cap := (cap : Int)) (ins := []) h0 (by omega) h.form (fun x hx => (h.lim x hx).1) Form.nil (by simp)
  have hE := hL.clear h0 (by omega) h.form
  have hlim : Lim (cap : Int) 1049088 (A ++ F ++ B) := by
    rw [hE]
    have := h.lim.chg h.form (x := ⟨lba, n, -1⟩) h0 h1 h2 (fun c => by simp at c)
    rwa [chg, if_pos (by simp)] at this
  have rI : Rs wa none 0 [] := ⟨by simp, by omega, Or.inl rfl⟩
  have hlay := lay_any h h0 (by omega) h2 hL (by simp) (by simp) hlim rI
  rw [hE, List.length_nil] at hlay
  have d1 := wrapI (x := lba + n) (by omega) (by omega)
  have hlay' := hlay.mono (R' := Did w wa q b p k N cap (clearL lba (lba + n) m)) (fun e w' h => h)
  clear h hL hE hlim rI hlay
  go_enter Try.func107, Try.ntmps107
  go_wp2_with (first | (go_at_call 52; refine hr.mono ?_; rintro e w1 ⟨rfl, rfl⟩) | (go_at_call 53; refine hlay'.mono ?_; rintro e w1 hD; rcases hD with ⟨a1, rfl, a3, a4⟩ | ⟨a1, rfl, a3⟩))
  · go_ret
    exact Or.inl ⟨a1, rfl, a3, a4⟩
  · go_wp2_with fail
    go_ret
    exact Or.inr ⟨a1, rfl, a3⟩
end Tg
end Go.Proofs.Ytkddonmddgfpnaa
namespace Go.Proofs.Ytkddonmddgfpnaa
open Go.ChangeShapes Go.WideShapes Go.ChangeAt Go.RowKit
namespace Tg

theorem Did.yes {w wa : World} {q b p k N cap : Nat} {m' : List Rn} {e : Ending} {w' : World} (h : Did w wa q b p k N cap m' e w') (hl : m'.length ≤ N) : e = .returned (.int .i64 0) ∧ Mp w w' q b p k N cap m' ∧ Keep (Own3 b p k) wa w' := by
  rcases h with ⟨h1, h2, h3, h4⟩ | ⟨h1, _⟩
  · exact ⟨h2, h3, h4⟩
  · omega
theorem Did.full {w wa : World} {q b p k N cap : Nat} {m' : List Rn} {e : Ending} {w' : World} (h : Did w wa q b p k N cap m' e w') (hl : N < m'.length) : e = .returned (.int .i64 5) ∧ Keep (fun _ => False) wa w' := by
  rcases h with ⟨h1, _⟩ | ⟨h1, h2, h3⟩
  · omega
  · exact ⟨h2, h3⟩
theorem call_yes {w wa : World} {q b p k N cap : Nat} {m m' : List Rn} {f : FuncId} {vs : Array Value} (h : Calls Try.prog f vs wa (Did w wa q b p k N cap m')) (e : m' = m) (hl : m.length ≤ N) :
    Calls Try.prog f vs wa fun e w' => e = .returned (.int .i64 0) ∧ Mp w w' q b p k N cap m ∧ Keep (Own3 b p k) wa w' := by
  subst e
  exact h.mono (fun _ _ hD => hD.yes hl)
theorem call_full {w wa : World} {q b p k N cap : Nat} {m' : List Rn} {f : FuncId} {vs : Array Value} (h : Calls Try.prog f vs wa (Did w wa q b p k N cap m')) (hl : N < m'.length) :
    Calls Try.prog f vs wa fun e w' => e = .returned (.int .i64 5) ∧ Keep (fun _ => False) wa w' := h.mono (fun _ _ hD => hD.full hl)
theorem Rw.rs {w : World} {G : Nat} {m : List Rn} (h : Rw w G (m.length * 3) (rcells m)) (hl : m.length ≤ 9223372036854775807) : Rs w (some ⟨G, 0, none⟩) m.length m := ⟨Nat.le_refl _, hl, Or.inr ⟨G, rfl, h.cells⟩⟩
theorem Mp.out {w wr : World} {q b p k N cap : Nat} {m : List Rn} (h : Mp w wr q b p k N cap m) {g : Nat} (hg : wr.heap.size ≤ g) : ¬ Own3 b p k g := by
  have := h.lt
  rintro (e | e | e) <;> omega

end Tg
end Go.Proofs.Ytkddonmddgfpnaa
