/-
  Streams and their pages as mathematics: what is cut, what is whole, what joins. No condition but the bounds that each law names.
-/
import Derived.Test.YtginnojbmpnleaaLb
namespace Go.Proofs.Ytginnojbmpnleaa
namespace Tg
/-- A page with its tag. -/
structure Pg where
  kind : Int
  lba : Int
  seq : Int
  ep : Int
  gr : Int
  ix : Int
  tot : Int
  pay : List Int
/-- A stream. -/
structure St where
  kind : Int
  ep : Int
  gr : Int
  bytes : List Int
/-- How many pages so many bytes have. -/
def npg (n : Nat) : Nat := if n = 0 then 1 else (n + 31) / 32
theorem npg_pos (n : Nat) : 1 ≤ npg n := by unfold npg; split <;> omega
theorem npg_le (n : Nat) : n ≤ 32 * npg n := by unfold npg; split <;> omega
theorem npg_max {n : Nat} (h : n ≤ 65536) : npg n ≤ 2048 := by unfold npg; split <;> omega
/-- The payload of the page i. -/
def payOf (b : List Int) (i : Nat) : List Int := (List.range 32).map (fun k => b.getD (32 * i + k) 0)
theorem payOf_len (b : List Int) (i : Nat) : (payOf b i).length = 32 := by simp [payOf]
theorem payOf_get (b : List Int) (i : Nat) {k : Nat} (hk : k < 32) : (payOf b i).getD k 0 = b.getD (32 * i + k) 0 := by simp [payOf, List.getD, hk]
/-- The page i of a stream. -/
def pgS (s : St) (i : Nat) : Pg := ⟨s.kind, (s.bytes.length : Int), 0, s.ep, s.gr, (i : Int), (npg s.bytes.length : Int), payOf s.bytes i⟩
/-- A stream, cut. -/
def cutL (s : St) : List Pg := (List.range (npg s.bytes.length)).map (pgS s)
theorem cutL_len (s : St) : (cutL s).length = npg s.bytes.length := by simp [cutL]
theorem cutL_get (s : St) {i : Nat} (h : i < npg s.bytes.length) : (cutL s)[i]? = some (pgS s i) := by simp [cutL, h]
theorem mem_cutL {s : St} {q : Pg} : q ∈ cutL s ↔ ∃ i, i < npg s.bytes.length ∧ pgS s i = q := by simp [cutL]
/-- A page whatever its Seq. -/
def strip (p : Pg) : Pg := { p with seq := 0 }
/-- May a stream be? -/
structure St.Ok (s : St) : Prop where
  kind : s.kind = 2 ∨ s.kind = 3
  len : s.bytes.length ≤ 65536
  bytes : ∀ x ∈ s.bytes, 0 ≤ x ∧ x ≤ 255
  ep : 0 ≤ s.ep ∧ s.ep ≤ 4294967295
  gr : 0 ≤ s.gr ∧ s.gr ≤ 4294967295
/-- What each page keeps to. -/
structure Pg.Ok (p : Pg) : Prop where
  kind : -9223372036854775808 ≤ p.kind ∧ p.kind ≤ 9223372036854775807
  lba : 0 ≤ p.lba ∧ p.lba ≤ 4294967295
  seq : 0 ≤ p.seq ∧ p.seq ≤ 4294967295
  ep : 0 ≤ p.ep ∧ p.ep ≤ 4294967295
  gr : 0 ≤ p.gr ∧ p.gr ≤ 4294967295
  ix : 0 ≤ p.ix ∧ p.ix ≤ 4294967295
  tot : 0 ≤ p.tot ∧ p.tot ≤ 4294967295
  len : p.pay.length = 32
  pay : ∀ x ∈ p.pay, 0 ≤ x ∧ x ≤ 255
theorem getD_bd {b : List Int} (h : ∀ x ∈ b, 0 ≤ x ∧ x ≤ 255) (k : Nat) : 0 ≤ b.getD k 0 ∧ b.getD k 0 ≤ 255 := by
  by_cases hk : k < b.length
  · have : b.getD k 0 = b[k] := by simp [List.getD, hk]
    rw [this]; exact h _ (List.getElem_mem hk)
  · have : b.getD k 0 = 0 := by simp [List.getD, hk]
    omega
theorem pgS_ok {s : St} (h : s.Ok) {i : Nat} (hi : i < npg s.bytes.length) : (pgS s i).Ok := by
  have h1 := npg_max h.len
  have h2 := h.len
  have h3 := h.kind
  have h4 := h.ep
  have h5 := h.gr
  refine ⟨?_, ?_, ?_, h4, h5, ?_, ?_, payOf_len _ _, fun x hx => ?_⟩
  · show _ ≤ s.kind ∧ s.kind ≤ _; omega
  · show 0 ≤ (s.bytes.length : Int) ∧ (s.bytes.length : Int) ≤ _; omega
  · show (0 : Int) ≤ 0 ∧ (0 : Int) ≤ _; omega
  · show 0 ≤ (i : Int) ∧ (i : Int) ≤ _; omega
  · show 0 ≤ (npg s.bytes.length : Int) ∧ (npg s.bytes.length : Int) ≤ _; omega
  · unfold pgS payOf at hx
    simp only [List.mem_map] at hx
    obtain ⟨k, -, rfl⟩ := hx
    exact getD_bd h.bytes _
/-- Is a page one of that kind, epoch and group? -/
def sameK (p : Pg) (s : St) : Prop := p.kind = s.kind ∧ p.ep = s.ep ∧ p.gr = s.gr
/-- What pages have of a stream is whole. -/
def Whole (l : List Pg) (s : St) : Prop := s.Ok ∧ ∀ q, q ∈ cutL s ↔ ∃ p ∈ l, sameK p s ∧ strip p = q
def keyLt (a b : St) : Prop := a.ep < b.ep ∨ (a.ep = b.ep ∧ (a.kind < b.kind ∨ (a.kind = b.kind ∧ a.gr < b.gr)))
def sameS (a b : St) : Prop := a.kind = b.kind ∧ a.ep = b.ep ∧ a.gr = b.gr
/-- The streams that are whole, in order. -/
def JoinS (l : List Pg) (L : List St) : Prop := L.Pairwise keyLt ∧ ∀ s, s ∈ L ↔ Whole l s
theorem list_ext {a b : List Int} (hl : a.length = b.length) (h : ∀ k, k < a.length → a.getD k 0 = b.getD k 0) : a = b := by
  apply List.ext_getElem hl
  intro i h1 h2
  have := h i h1
  simpa [List.getD, h1, h2] using this
/-- Streams of one kind, epoch and group whose pages are the same are the same. -/
theorem cut_one {s t : St} (hk : sameS s t) (h : ∀ q, q ∈ cutL s → q ∈ cutL t) : s = t := by
  obtain ⟨k1, k2, k3⟩ := hk
  have h0 := h (pgS s 0) (mem_cutL.2 ⟨0, npg_pos _, rfl⟩)
  obtain ⟨j, hj, e⟩ := mem_cutL.1 h0
  have hlen : t.bytes.length = s.bytes.length := by
    have := congrArg Pg.lba e
    simp only [pgS] at this
    omega
  have hb : s.bytes = t.bytes := by
    refine list_ext hlen.symm (fun k hk => ?_)
    have hn := npg_le s.bytes.length
    have hi : k / 32 < npg s.bytes.length := by omega
    obtain ⟨j, hj, e⟩ := mem_cutL.1 (h (pgS s (k / 32)) (mem_cutL.2 ⟨k / 32, hi, rfl⟩))
    have ej : j = k / 32 := by
      have := congrArg Pg.ix e
      simp only [pgS] at this
      omega
    subst ej
    have ep := congrArg Pg.pay e
    simp only [pgS] at ep
    have h1 := payOf_get s.bytes (k / 32) (k := k % 32) (by omega)
    have h2 := payOf_get t.bytes (k / 32) (k := k % 32) (by omega)
    rw [ep, h1] at h2
    rw [show 32 * (k / 32) + k % 32 = k by omega] at h2
    exact h2
  cases s
  cases t
  simp_all
theorem whole_one {l : List Pg} {s t : St} (hs : Whole l s) (ht : Whole l t) (hk : sameS s t) : s = t := by
  refine cut_one hk (fun q hq => ?_)
  obtain ⟨p, hp, h1, h2⟩ := (hs.2 q).1 hq
  exact (ht.2 q).2 ⟨p, hp, ⟨h1.1.trans hk.1, h1.2.1.trans hk.2.1, h1.2.2.trans hk.2.2⟩, h2⟩
theorem keyLt_irr (a : St) : ¬ keyLt a a := by unfold keyLt; omega
theorem keyLt_asym {a b : St} (h : keyLt a b) : ¬ keyLt b a := by unfold keyLt at *; omega
theorem keyLt_trans {a b c : St} (h : keyLt a b) (h2 : keyLt b c) : keyLt a c := by unfold keyLt at *; omega
theorem keyLt_total {a b : St} (h : ¬ sameS a b) : keyLt a b ∨ keyLt b a := by unfold keyLt; unfold sameS at h; omega
/-- Lists in strict order with the same members are the same. -/
theorem sorted_one : ∀ {a b : List St}, a.Pairwise keyLt → b.Pairwise keyLt → (∀ s, s ∈ a ↔ s ∈ b) → a = b
  | [], [], _, _, _ => rfl
  | [], y :: b, _, _, h => by have := (h y).2 (by simp); cases this
  | x :: a, [], _, _, h => by have := (h x).1 (by simp); cases this
  | x :: a, y :: b, ha, hb, h => by
    obtain ⟨a1, a2⟩ := List.pairwise_cons.1 ha
    obtain ⟨b1, b2⟩ := List.pairwise_cons.1 hb
    have hxy : x = y := by
      rcases List.mem_cons.1 ((h x).1 (by simp)) with e | hx
      · exact e
      · rcases List.mem_cons.1 ((h y).2 (by simp)) with e | hy
        · exact e.symm
        · exact absurd (a1 y hy) (keyLt_asym (b1 x hx))
    subst hxy
    have : a = b := sorted_one a2 b2 (fun s => ⟨fun hs => by
      rcases List.mem_cons.1 ((h s).1 (by simp [hs])) with e | hs2
      · subst e; exact absurd (a1 s hs) (keyLt_irr s)
      · exact hs2, fun hs => by
      rcases List.mem_cons.1 ((h s).2 (by simp [hs])) with e | hs2
      · subst e; exact absurd (b1 s hs) (keyLt_irr s)
      · exact hs2⟩)
    rw [this]
theorem join_one {l : List Pg} {L M : List St} (h1 : JoinS l L) (h2 : JoinS l M) : L = M := sorted_one h1.1 h2.1 (fun s => (h1.2 s).trans (h2.2 s).symm)
/-- Only which pages there are, whatever their Seq, makes a difference. -/
theorem join_set {l m : List Pg} (h : ∀ q, (∃ p ∈ l, strip p = q) ↔ ∃ p ∈ m, strip p = q) {L : List St} (hL : JoinS l L) : JoinS m L := by
  refine ⟨hL.1, fun s => (hL.2 s).trans ?_⟩
  have key : ∀ (a b : List Pg), (∀ q, (∃ p ∈ a, strip p = q) → ∃ p ∈ b, strip p = q) → ∀ q, (∃ p ∈ a, sameK p s ∧ strip p = q) → ∃ p ∈ b, sameK p s ∧ strip p = q := by
    rintro a b hab q ⟨p, hp, hk, rfl⟩
    obtain ⟨p2, hp2, e⟩ := hab (strip p) ⟨p, hp, rfl⟩
    refine ⟨p2, hp2, ?_, e⟩
    have e1 := congrArg Pg.kind e
    have e2 := congrArg Pg.ep e
    have e3 := congrArg Pg.gr e
    simp only [strip] at e1 e2 e3
    exact ⟨e1.trans hk.1, e2.trans hk.2.1, e3.trans hk.2.2⟩
  unfold Whole
  refine and_congr_right (fun _ => ?_)
  constructor
  · intro h2 q
    exact (h2 q).trans ⟨key l m (fun q => (h q).1) q, key m l (fun q => (h q).2) q⟩
  · intro h2 q
    exact (h2 q).trans ⟨key m l (fun q => (h q).2) q, key l m (fun q => (h q).1) q⟩
theorem join_mem {l m : List Pg} (h : ∀ p, p ∈ l ↔ p ∈ m) {L : List St} (hL : JoinS l L) : JoinS m L :=
  join_set (fun _ => ⟨fun ⟨p, hp, e⟩ => ⟨p, (h p).1 hp, e⟩, fun ⟨p, hp, e⟩ => ⟨p, (h p).2 hp, e⟩⟩) hL
theorem strip_pgS (s : St) (i : Nat) : strip (pgS s i) = pgS s i := rfl
theorem strip_cut {s : St} {p : Pg} (h : p ∈ cutL s) : strip p = p := by
  obtain ⟨i, -, rfl⟩ := mem_cutL.1 h
  rfl
theorem cut_key {s : St} {p : Pg} (h : p ∈ cutL s) : sameK p s := by
  obtain ⟨i, -, rfl⟩ := mem_cutL.1 h
  exact ⟨rfl, rfl, rfl⟩
theorem cut_not_nil (s : St) : ∃ p, p ∈ cutL s := ⟨_, mem_cutL.2 ⟨0, npg_pos _, rfl⟩⟩
/-- The pages of one stream, whatever their order. -/
theorem join_cut {s : St} (hs : s.Ok) : JoinS (cutL s) [s] := by
  refine ⟨List.pairwise_singleton _ _, fun t => ?_⟩
  have hw : Whole (cutL s) s := ⟨hs, fun q => ⟨fun hq => ⟨q, hq, cut_key hq, strip_cut hq⟩, fun ⟨p, hp, _, e⟩ => by rw [← e, strip_cut hp]; exact hp⟩⟩
  simp only [List.mem_singleton]
  constructor
  · rintro rfl; exact hw
  · intro ht
    obtain ⟨q, hq⟩ := cut_not_nil t
    obtain ⟨p, hp, hk, -⟩ := (ht.2 q).1 hq
    have hk2 := cut_key hp
    exact whole_one ht hw ⟨hk.1.symm.trans hk2.1, hk.2.1.symm.trans hk2.2.1, hk.2.2.symm.trans hk2.2.2⟩
/-- The pages of two streams. -/
theorem join_two {s t : St} (hs : s.Ok) (ht : t.Ok) (hlt : keyLt s t) {l : List Pg} (h : ∀ p, p ∈ l ↔ p ∈ cutL s ∨ p ∈ cutL t) : JoinS l [s, t] := by
  have hns : ¬ sameS s t := fun e => by unfold keyLt at hlt; unfold sameS at e; omega
  have hw : ∀ {a b : St}, a.Ok → ¬ sameS a b → (∀ p, p ∈ l ↔ p ∈ cutL a ∨ p ∈ cutL b) → Whole l a := fun {a b} ha hab hm => ⟨ha, fun q => ⟨fun hq => ⟨q, (hm q).2 (Or.inl hq), cut_key hq, strip_cut hq⟩, fun ⟨p, hp, hk, e⟩ => by
    rcases (hm p).1 hp with h1 | h1
    · rw [← e, strip_cut h1]; exact h1
    · have h2 := cut_key h1
      exact absurd ⟨hk.1.symm.trans h2.1, hk.2.1.symm.trans h2.2.1, hk.2.2.symm.trans h2.2.2⟩ hab⟩⟩
  have w1 := hw hs hns h
  have w2 := hw (a := t) (b := s) ht (fun e => hns ⟨e.1.symm, e.2.1.symm, e.2.2.symm⟩) (fun p => (h p).trans or_comm)
  refine ⟨by simp [hlt], fun u => ?_⟩
  simp only [List.mem_cons, List.not_mem_nil, or_false]
  constructor
  · rintro (rfl | rfl)
    · exact w1
    · exact w2
  · intro hu
    obtain ⟨q, hq⟩ := cut_not_nil u
    obtain ⟨p, hp, hk, -⟩ := (hu.2 q).1 hq
    rcases (h p).1 hp with h1 | h1
    · have h2 := cut_key h1
      exact Or.inl (whole_one hu w1 ⟨hk.1.symm.trans h2.1, hk.2.1.symm.trans h2.2.1, hk.2.2.symm.trans h2.2.2⟩)
    · have h2 := cut_key h1
      exact Or.inr (whole_one hu w2 ⟨hk.1.symm.trans h2.1, hk.2.1.symm.trans h2.2.1, hk.2.2.symm.trans h2.2.2⟩)
/-- Where one page of the first is lacking. -/
theorem join_less {s t : St} (ht : t.Ok) (hlt : keyLt s t) {d : Nat} (hd : d < npg s.bytes.length) {l : List Pg} (h : ∀ p, p ∈ l ↔ (p ∈ cutL s ∧ p ≠ pgS s d) ∨ p ∈ cutL t) : JoinS l [t] := by
  have hns : ¬ sameS t s := fun e => by unfold keyLt at hlt; unfold sameS at e; omega
  have w2 : Whole l t := ⟨ht, fun q => ⟨fun hq => ⟨q, (h q).2 (Or.inr hq), cut_key hq, strip_cut hq⟩, fun ⟨p, hp, hk, e⟩ => by
    rcases (h p).1 hp with h1 | h1
    · have h2 := cut_key h1.1
      exact absurd ⟨hk.1.symm.trans h2.1, hk.2.1.symm.trans h2.2.1, hk.2.2.symm.trans h2.2.2⟩ hns
    · rw [← e, strip_cut h1]; exact h1⟩⟩
  refine ⟨List.pairwise_singleton _ _, fun u => ?_⟩
  simp only [List.mem_singleton]
  constructor
  · rintro rfl; exact w2
  · intro hu
    obtain ⟨q, hq⟩ := cut_not_nil u
    obtain ⟨p, hp, hk, -⟩ := (hu.2 q).1 hq
    rcases (h p).1 hp with h1 | h1
    · exfalso
      have h2 := cut_key h1.1
      have hsu : sameS s u := ⟨h2.1.symm.trans hk.1, h2.2.1.symm.trans hk.2.1, h2.2.2.symm.trans hk.2.2⟩
      have hpu : p ∈ cutL u := (hu.2 p).2 ⟨p, hp, hk, strip_cut h1.1⟩
      obtain ⟨i, hi, e1⟩ := mem_cutL.1 h1.1
      obtain ⟨j, hj, e2⟩ := mem_cutL.1 hpu
      have hlen : s.bytes.length = u.bytes.length := by
        have := congrArg Pg.lba (e1.trans e2.symm)
        simp only [pgS] at this
        omega
      obtain ⟨p2, hp2, hk2, e3⟩ := (hu.2 (pgS u d)).1 (mem_cutL.2 ⟨d, by rw [← hlen]; exact hd, rfl⟩)
      rcases (h p2).1 hp2 with h3 | h3
      · rw [strip_cut h3.1] at e3
        obtain ⟨j2, hj2, e4⟩ := mem_cutL.1 h3.1
        have : j2 = d := by
          have := congrArg Pg.ix (e4.trans e3)
          simp only [pgS] at this
          omega
        subst this
        exact h3.2 e4.symm
      · have h4 := cut_key h3
        exact hns ⟨h4.1.symm.trans (hk2.1.trans hsu.1.symm), h4.2.1.symm.trans (hk2.2.1.trans hsu.2.1.symm), h4.2.2.symm.trans (hk2.2.2.trans hsu.2.2.symm)⟩
    · have h2 := cut_key h1
      exact whole_one hu w2 ⟨hk.1.symm.trans h2.1, hk.2.1.symm.trans h2.2.1, hk.2.2.symm.trans h2.2.2⟩
end Tg
end Go.Proofs.Ytginnojbmpnleaa
