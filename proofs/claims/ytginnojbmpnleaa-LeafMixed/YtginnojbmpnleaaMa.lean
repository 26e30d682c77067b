/-
  When sorted pages of one kind, epoch and group say a stream, and how the streams of sorted pages come one behind the other: mathematics alone.
-/
import Derived.Test.YtginnojbmpnleaaLm
namespace Go.Proofs.Ytginnojbmpnleaa
namespace Tg
/-- One page behind another: nothing contradicts, nothing is left out. -/
def Step (a b : Pg) : Prop := a.lba = b.lba ∧ a.tot = b.tot ∧ ((a.ix = b.ix ∧ a.pay = b.pay) ∨ b.ix = a.ix + 1)
theorem chain_same {g : Nat → Pg} {n : Nat} (h : ∀ i, i + 1 < n → Step (g i) (g (i + 1))) : ∀ j, j < n → (g j).lba = (g 0).lba ∧ (g j).tot = (g 0).tot
  | 0, _ => ⟨rfl, rfl⟩
  | j + 1, hj => by
    have := chain_same h j (by omega)
    have h1 := h j hj
    exact ⟨h1.1.symm.trans this.1, h1.2.1.symm.trans this.2⟩
theorem chain_pay {g : Nat → Pg} {n : Nat} (h : ∀ i, i + 1 < n → Step (g i) (g (i + 1))) (i : Nat) : ∀ d, i + d < n → (g i).ix ≤ (g (i + d)).ix ∧ ((g i).ix = (g (i + d)).ix → (g i).pay = (g (i + d)).pay)
  | 0, _ => ⟨Int.le_refl _, fun _ => rfl⟩
  | d + 1, hd => by
    have ih := chain_pay h i d (by omega)
    obtain ⟨-, -, h3⟩ := h (i + d) (by omega)
    rw [show i + d + 1 = i + (d + 1) by omega] at h3
    rcases h3 with ⟨h4, h5⟩ | h4
    · exact ⟨by omega, fun e => (ih.2 (by omega)).trans h5⟩
    · exact ⟨by omega, fun e => absurd e (by omega)⟩
theorem chain_all {g : Nat → Pg} {n : Nat} (h : ∀ i, i + 1 < n → Step (g i) (g (i + 1))) : ∀ j, j < n → ∀ v, (g 0).ix ≤ v → v ≤ (g j).ix → ∃ i, i ≤ j ∧ (g i).ix = v
  | 0, _, v, h1, h2 => ⟨0, Nat.le_refl _, by omega⟩
  | j + 1, hj, v, h1, h2 => by
    by_cases c : v ≤ (g j).ix
    · obtain ⟨i, hi, e⟩ := chain_all h j (by omega) v h1 c
      exact ⟨i, by omega, e⟩
    · obtain ⟨-, -, h3⟩ := h j hj
      exact ⟨j + 1, Nat.le_refl _, by omega⟩
/-- The page i, or one of zeros. -/
def at0 (l : List Pg) (i : Nat) : Pg := l.getD i ⟨0, 0, 0, 0, 0, 0, 0, []⟩
theorem at0_get {l : List Pg} {i : Nat} (h : i < l.length) : l[i]? = some (at0 l i) := by simp [at0, List.getD, h]
theorem at0_mem {l : List Pg} {i : Nat} (h : i < l.length) : at0 l i ∈ l := List.mem_of_getElem? (at0_get h)
theorem mem_at0 {l : List Pg} {p : Pg} (h : p ∈ l) : ∃ i, i < l.length ∧ at0 l i = p := by
  obtain ⟨i, hi⟩ := List.getElem?_of_mem h
  have hl := (List.getElem?_eq_some_iff.1 hi).1
  refine ⟨i, hl, ?_⟩
  have := at0_get hl
  rw [hi] at this
  injection this with this
  exact this.symm
/-- Zeros behind the stream's bytes. -/
def Filled (p : Pg) : Prop := ∀ k : Nat, p.lba ≤ p.ix * 32 + k → k < 32 → p.pay.getD k 0 = 0
/-- Sorted pages of one stream say it, all of it and nothing else. -/
structure Says1 (G : List Pg) : Prop where
  lba : (at0 G 0).lba ≤ 65536
  tot : (at0 G 0).tot = (npg (at0 G 0).lba.toNat : Int)
  step : ∀ i, i + 1 < G.length → Step (at0 G i) (at0 G (i + 1))
  first : (at0 G 0).ix = 0
  last : (at0 G (G.length - 1)).ix = (at0 G 0).tot - 1
  fill : Filled (at0 G (G.length - 1))
/-- Pages of one stream, in order. -/
structure Grp (G : List Pg) : Prop where
  some : 0 < G.length
  ok : ∀ q ∈ G, q.Ok
  kind : (at0 G 0).kind = 2 ∨ (at0 G 0).kind = 3
  key : ∀ q ∈ G, q.kind = (at0 G 0).kind ∧ q.ep = (at0 G 0).ep ∧ q.gr = (at0 G 0).gr
  up : ∀ i j, i ≤ j → j < G.length → (at0 G i).ix ≤ (at0 G j).ix
/-- The bytes that pages say. -/
def bytesOf (G : List Pg) (n : Nat) : List Int := (List.range n).map (fun k => ((G.find? (fun p => decide (p.ix = ((k / 32 : Nat) : Int)))).map (fun p => p.pay.getD (k % 32) 0)).getD 0)
theorem bytesOf_len (G : List Pg) (n : Nat) : (bytesOf G n).length = n := by simp [bytesOf]
theorem bytesOf_get {G : List Pg} {n : Nat} (hp : ∀ p ∈ G, ∀ q ∈ G, p.ix = q.ix → p.pay = q.pay) {p : Pg} (h : p ∈ G) {i k : Nat} (hi : p.ix = (i : Int)) (hk : k < 32) (hn : 32 * i + k < n) : (bytesOf G n).getD (32 * i + k) 0 = p.pay.getD k 0 := by
  have e1 : (32 * i + k) / 32 = i := by omega
  have e2 : (32 * i + k) % 32 = k := by omega
  unfold bytesOf
  rw [List.getD_eq_getElem?_getD, List.getElem?_map, List.getElem?_range hn, Option.map_some, Option.getD_some, e1, e2]
  cases hf : G.find? (fun p => decide (p.ix = (i : Int))) with
  | none =>
    have := List.find?_eq_none.1 hf p h
    simp [hi] at this
  | some q =>
    have h1 := List.find?_some hf
    have h2 := List.mem_of_find?_eq_some hf
    simp at h1
    rw [Option.map_some, Option.getD_some, hp q h2 p h (by omega)]
theorem says_whole {G : List Pg} (hG : Grp G) (h : Says1 G) : ∃ s, Whole G s ∧ s.kind = (at0 G 0).kind ∧ s.ep = (at0 G 0).ep ∧ s.gr = (at0 G 0).gr ∧ (s.bytes.length : Int) = (at0 G 0).lba := by
  have hs := chain_same h.step
  have hpay : ∀ p ∈ G, ∀ q ∈ G, p.ix = q.ix → p.pay = q.pay := by
    intro p hp q hq e
    obtain ⟨i, hi, rfl⟩ := mem_at0 hp
    obtain ⟨j, hj, rfl⟩ := mem_at0 hq
    rcases Nat.le_total i j with c | c
    · have := (chain_pay h.step i (j - i) (by omega)).2
      rw [show i + (j - i) = j by omega] at this
      exact this e
    · have := (chain_pay h.step j (i - j) (by omega)).2
      rw [show j + (i - j) = i by omega] at this
      exact (this e.symm).symm
  obtain ⟨hl0, hl1⟩ := (hG.ok _ (at0_mem hG.some)).lba
  have hle := h.lba
  obtain ⟨n, hn⟩ : ∃ n : Nat, (at0 G 0).lba = (n : Int) := ⟨(at0 G 0).lba.toNat, by omega⟩
  have hn6 : n ≤ 65536 := by omega
  have htot : (at0 G 0).tot = (npg n : Int) := by rw [h.tot, hn]; rfl
  have hok0 := hG.ok _ (at0_mem hG.some)
  have hix : ∀ p ∈ G, 0 ≤ p.ix ∧ p.ix < (npg n : Int) := by
    intro p hp
    obtain ⟨i, hi, rfl⟩ := mem_at0 hp
    have h1 := hG.up i (G.length - 1) (by omega) (by have := hG.some; omega)
    have h2 := h.last
    have h3 := (hG.ok _ hp).ix.1
    omega
  let s : St := ⟨(at0 G 0).kind, (at0 G 0).ep, (at0 G 0).gr, bytesOf G n⟩
  have hsl : s.bytes.length = n := bytesOf_len G n
  have hpg : ∀ p ∈ G, strip p = pgS s p.ix.toNat := by
    intro p hp
    obtain ⟨h1, h2⟩ := hix p hp
    obtain ⟨i, hi⟩ : ∃ i : Nat, p.ix = (i : Int) := ⟨p.ix.toNat, by omega⟩
    obtain ⟨j, hj, ej⟩ := mem_at0 hp
    have hk := hG.key p hp
    have hsj := hs j hj
    rw [ej] at hsj
    have hpy : p.pay = payOf s.bytes i := by
      refine list_ext (by rw [payOf_len]; exact (hG.ok p hp).len) (fun k hk => ?_)
      rw [(hG.ok p hp).len] at hk
      rw [payOf_get _ _ hk]
      by_cases c : 32 * i + k < n
      · exact (bytesOf_get hpay hp hi hk c).symm
      · rw [show s.bytes.getD (32 * i + k) 0 = 0 by simp [List.getD, hsl, Nat.le_of_not_lt c]]
        have hnn : i + 1 = npg n := by
          have : npg n ≤ i + 1 := by unfold npg; split <;> omega
          omega
        have hz := h.last
        have e : p.ix = (at0 G (G.length - 1)).ix := by omega
        have hzm : at0 G (G.length - 1) ∈ G := at0_mem (by have := hG.some; omega)
        rw [hpay p hp _ hzm e]
        refine h.fill k ?_ hk
        have hsz := hs (G.length - 1) (by have := hG.some; omega)
        omega
    rw [hi, Int.toNat_natCast]
    unfold strip pgS
    rw [hsl]
    cases p
    simp only at *
    simp [hk.1, hk.2.1, hk.2.2, hsj.1, hsj.2, hn, htot, hi, hpy, s]
  refine ⟨s, ⟨⟨hG.kind, by rw [hsl]; exact hn6, fun x hx => ?_, hok0.ep, hok0.gr⟩, fun q => ?_⟩, rfl, rfl, rfl, by rw [hsl]; exact hn.symm⟩
  · obtain ⟨k, hk, rfl⟩ := List.mem_map.1 hx
    cases hf : G.find? (fun p => decide (p.ix = ((k / 32 : Nat) : Int))) with
    | none => simp
    | some q =>
      have h2 := List.mem_of_find?_eq_some hf
      simpa using getD_bd (hG.ok q h2).pay (k % 32)
  · constructor
    · intro hq
      obtain ⟨i, hi, rfl⟩ := mem_cutL.1 hq
      rw [hsl] at hi
      obtain ⟨j, hj, e⟩ := chain_all h.step (G.length - 1) (by have := hG.some; omega) (i : Int) (by have := h.first; omega) (by have := h.last; omega)
      have hm : at0 G j ∈ G := at0_mem (by have := hG.some; omega)
      refine ⟨_, hm, hG.key _ hm, ?_⟩
      rw [hpg _ hm, e, Int.toNat_natCast]
    · rintro ⟨p, hp, -, rfl⟩
      obtain ⟨h1, h2⟩ := hix p hp
      rw [hpg p hp]
      exact mem_cutL.2 ⟨_, by rw [hsl]; omega, rfl⟩
/-- What each page of a whole stream is. -/
theorem whole_pages {G : List Pg} (hG : Grp G) {s : St} (h : Whole G s) : (s.kind = (at0 G 0).kind ∧ s.ep = (at0 G 0).ep ∧ s.gr = (at0 G 0).gr) ∧ (∀ p ∈ G, ∃ i, i < npg s.bytes.length ∧ p.ix = (i : Int) ∧ p.lba = (s.bytes.length : Int) ∧ p.tot = (npg s.bytes.length : Int) ∧ p.pay = payOf s.bytes i) ∧ (∀ i, i < npg s.bytes.length → ∃ p ∈ G, p.ix = (i : Int)) := by
  obtain ⟨q, hq⟩ := cut_not_nil s
  obtain ⟨p0, hp0, hk0, -⟩ := (h.2 q).1 hq
  have hk1 := hG.key p0 hp0
  have hks : s.kind = (at0 G 0).kind ∧ s.ep = (at0 G 0).ep ∧ s.gr = (at0 G 0).gr := ⟨hk0.1.symm.trans hk1.1, hk0.2.1.symm.trans hk1.2.1, hk0.2.2.symm.trans hk1.2.2⟩
  refine ⟨hks, fun p hp => ?_, fun i hi => ?_⟩
  · have hk := hG.key p hp
    have hm := (h.2 (strip p)).2 ⟨p, hp, ⟨hk.1.trans hks.1.symm, hk.2.1.trans hks.2.1.symm, hk.2.2.trans hks.2.2.symm⟩, rfl⟩
    obtain ⟨i, hi, e⟩ := mem_cutL.1 hm
    have e1 := congrArg Pg.ix e
    have e2 := congrArg Pg.lba e
    have e3 := congrArg Pg.tot e
    have e4 := congrArg Pg.pay e
    simp only [pgS, strip] at e1 e2 e3 e4
    exact ⟨i, hi, e1.symm, e2.symm, e3.symm, e4.symm⟩
  · obtain ⟨p, hp, -, e⟩ := (h.2 (pgS s i)).1 (mem_cutL.2 ⟨i, hi, rfl⟩)
    have e1 := congrArg Pg.ix e
    simp only [pgS, strip] at e1
    exact ⟨p, hp, e1⟩
theorem whole_says {G : List Pg} (hG : Grp G) {s : St} (h : Whole G s) : Says1 G := by
  obtain ⟨-, hpg, hall⟩ := whole_pages hG h
  have hlen := h.1.len
  obtain ⟨i0, hi0, x0, l0, t0, p0⟩ := hpg _ (at0_mem hG.some)
  have hz := hG.some
  obtain ⟨iz, hiz, xz, lz, tz, pz⟩ := hpg _ (at0_mem (l := G) (i := G.length - 1) (by omega))
  have hpos := npg_pos s.bytes.length
  have hlast : (at0 G (G.length - 1)).ix = (npg s.bytes.length : Int) - 1 := by
    obtain ⟨p, hp, e⟩ := hall (npg s.bytes.length - 1) (by omega)
    obtain ⟨j, hj, rfl⟩ := mem_at0 hp
    have := hG.up j (G.length - 1) (by omega) (by omega)
    omega
  refine ⟨by omega, by rw [t0, l0]; rfl, fun i hi => ?_, ?_, by rw [hlast, t0], fun k h1 h2 => ?_⟩
  · obtain ⟨a, ha, xa, la, ta, pa⟩ := hpg _ (at0_mem (l := G) (i := i) (by omega))
    obtain ⟨b, hb, xb, lb, tb, pb⟩ := hpg _ (at0_mem (l := G) (i := i + 1) hi)
    refine ⟨by omega, by omega, ?_⟩
    have hle := hG.up i (i + 1) (by omega) hi
    by_cases c : a = b
    · subst c
      exact Or.inl ⟨by omega, pa.trans pb.symm⟩
    · right
      obtain ⟨p, hp, e⟩ := hall (a + 1) (by omega)
      obtain ⟨j, hj, rfl⟩ := mem_at0 hp
      rcases Nat.lt_or_ge i j with c2 | c2
      · have := hG.up (i + 1) j c2 hj
        omega
      · have := hG.up j i c2 (by omega)
        omega
  · obtain ⟨p, hp, e⟩ := hall 0 (by omega)
    obtain ⟨j, hj, rfl⟩ := mem_at0 hp
    have := hG.up 0 j (by omega) hj
    omega
  · rw [pz, payOf_get _ _ h2]
    have : s.bytes.length ≤ 32 * iz + k := by omega
    simp [List.getD, this]
/-- The streams of some pages, then those of others of one key that is greater. -/
theorem join_next {A G : List Pg} {L : List St} (hA : JoinS A L) (hG : Grp G) (hlt : ∀ a ∈ A, a.ep < (at0 G 0).ep ∨ (a.ep = (at0 G 0).ep ∧ (a.kind < (at0 G 0).kind ∨ (a.kind = (at0 G 0).kind ∧ a.gr < (at0 G 0).gr)))) :
    (∀ s, Whole G s → JoinS (A ++ G) (L ++ [s])) ∧ (¬ Says1 G → JoinS (A ++ G) L) := by
  have hA0 : ∀ s, Whole A s → s.ep < (at0 G 0).ep ∨ (s.ep = (at0 G 0).ep ∧ (s.kind < (at0 G 0).kind ∨ (s.kind = (at0 G 0).kind ∧ s.gr < (at0 G 0).gr))) := by
    intro s hs
    obtain ⟨q, hq⟩ := cut_not_nil s
    obtain ⟨p, hp, hk, -⟩ := (hs.2 q).1 hq
    have := hlt p hp
    obtain ⟨k1, k2, k3⟩ := hk
    omega
  have hsplit : ∀ s, Whole (A ++ G) s ↔ Whole A s ∨ Whole G s := by
    intro s
    by_cases c : s.kind = (at0 G 0).kind ∧ s.ep = (at0 G 0).ep ∧ s.gr = (at0 G 0).gr
    · have hna : ∀ p ∈ A, ¬ sameK p s := fun p hp hk => by have := hlt p hp; obtain ⟨k1, k2, k3⟩ := hk; omega
      have e1 : Whole (A ++ G) s ↔ Whole G s := by
        unfold Whole
        refine and_congr_right (fun _ => forall_congr' (fun q => iff_congr Iff.rfl ?_))
        constructor
        · rintro ⟨p, hp, hk, e⟩
          rcases List.mem_append.1 hp with h | h
          · exact absurd hk (hna p h)
          · exact ⟨p, h, hk, e⟩
        · rintro ⟨p, hp, hk, e⟩
          exact ⟨p, List.mem_append.2 (Or.inr hp), hk, e⟩
      rw [e1]
      constructor
      · exact Or.inr
      · rintro (h | h)
        · have := hA0 s h; omega
        · exact h
    · have hng : ∀ p ∈ G, ¬ sameK p s := fun p hp hk => by have := hG.key p hp; obtain ⟨k1, k2, k3⟩ := hk; omega
      have e1 : Whole (A ++ G) s ↔ Whole A s := by
        unfold Whole
        refine and_congr_right (fun _ => forall_congr' (fun q => iff_congr Iff.rfl ?_))
        constructor
        · rintro ⟨p, hp, hk, e⟩
          rcases List.mem_append.1 hp with h | h
          · exact ⟨p, h, hk, e⟩
          · exact absurd hk (hng p h)
        · rintro ⟨p, hp, hk, e⟩
          exact ⟨p, List.mem_append.2 (Or.inl hp), hk, e⟩
      rw [e1]
      constructor
      · exact Or.inl
      · rintro (h | h)
        · exact h
        · exact absurd (whole_pages hG h).1 c
  constructor
  · intro s hs
    have hk := (whole_pages hG hs).1
    refine ⟨List.pairwise_append.2 ⟨hA.1, List.pairwise_singleton _ _, fun a ha b hb => ?_⟩, fun t => ?_⟩
    · obtain rfl := List.mem_singleton.1 hb
      have := hA0 a ((hA.2 a).1 ha)
      unfold keyLt
      omega
    · rw [hsplit, List.mem_append, List.mem_singleton, hA.2 t]
      constructor
      · rintro (h | rfl)
        · exact Or.inl h
        · exact Or.inr hs
      · rintro (h | h)
        · exact Or.inl h
        · have hk2 := (whole_pages hG h).1
          exact Or.inr (whole_one h hs ⟨hk2.1.trans hk.1.symm, hk2.2.1.trans hk.2.1.symm, hk2.2.2.trans hk.2.2.symm⟩)
  · intro hn
    refine ⟨hA.1, fun t => ?_⟩
    rw [hsplit, hA.2 t]
    constructor
    · exact Or.inl
    · rintro (h | h)
      · exact h
      · exact absurd (whole_says hG h) hn
theorem join_zero : JoinS [] [] := by
  refine ⟨List.Pairwise.nil, fun s => ⟨fun h => absurd h (by simp), fun h => ?_⟩⟩
  obtain ⟨q, hq⟩ := cut_not_nil s
  obtain ⟨p, hp, -⟩ := (h.2 q).1 hq
  cases hp
/-- Pages of other kinds make no difference. -/
theorem join_known {l D : List Pg} (h : ∀ p, p ∈ D ↔ p ∈ l ∧ (p.kind = 2 ∨ p.kind = 3)) {L : List St} (hL : JoinS D L) : JoinS l L := by
  refine ⟨hL.1, fun s => (hL.2 s).trans ?_⟩
  unfold Whole
  refine and_congr_right (fun hs => forall_congr' (fun q => iff_congr Iff.rfl ?_))
  constructor
  · rintro ⟨p, hp, hk, e⟩
    exact ⟨p, ((h p).1 hp).1, hk, e⟩
  · rintro ⟨p, hp, hk, e⟩
    exact ⟨p, (h p).2 ⟨hp, by have := hs.kind; rw [hk.1]; exact this⟩, hk, e⟩
end Tg
end Go.Proofs.Ytginnojbmpnleaa
