/-
  What each call makes of the volumes, place by place (mathematics).
-/
import Derived.Test.YtjgnajopomadpaaGreatQa
namespace Go.Proofs.YtjgnajopomadpaaGreat
open Go.ChangeShapes Go.WideShapes Go.ChangeAt Go.RowKit
namespace Tg
open Qm Crc
/-- The volumes, place by place, as a list. -/
def lst (s : Nat → Option En) : List En := (List.range 8).filterMap s
/-- Eight places, no two volumes of them together. -/
structure Sp (N : Nat) (s : Nat → Option En) : Prop where
  ok : ∀ i e, i < 8 → s i = some e → e.Ok N ∧ goodS (bs (strOfNums e.nm)) = true ∧ e.i = i
  ap : ∀ i j e e', i < j → j < 8 → s i = some e → s j = some e' → apart e e' = true
theorem mem_lst {s : Nat → Option En} {e : En} : e ∈ lst s ↔ ∃ i, i < 8 ∧ s i = some e := by
  unfold lst
  constructor
  · intro hm
    obtain ⟨i, hi, he⟩ := List.mem_filterMap.1 hm
    exact ⟨i, List.mem_range.1 hi, he⟩
  · rintro ⟨i, hi, he⟩
    exact List.mem_filterMap.2 ⟨i, List.mem_range.2 hi, he⟩
theorem Sp.one {N : Nat} {s : Nat → Option En} (h : Sp N s) {i j : Nat} {e e' : En} (hi : i < 8) (hj : j < 8) (he : s i = some e) (he' : s j = some e') (hn : strOfNums e.nm = strOfNums e'.nm) : i = j := by
  rcases Nat.lt_trichotomy i j with c | c | c
  · have := h.ap i j e e' c hj he he'
    unfold apart at this
    rw [decide_eq_false (by intro x; exact x hn)] at this
    cases this
  · exact c
  · have := h.ap j i e' e c hi he' he
    unfold apart at this
    rw [decide_eq_false (by intro x; exact x hn.symm)] at this
    cases this
theorem no_lst {s : Nat → Option En} {nm : ByteArray} : volOf (lst s) nm = none ↔ ∀ i, i < 8 → ∀ e, s i = some e → strOfNums e.nm ≠ nm := by
  unfold volOf
  rw [List.find?_eq_none]
  constructor
  · intro hx i hi e he hn
    have := hx e (mem_lst.2 ⟨i, hi, he⟩)
    simp [hn] at this
  · intro hx e hm hn
    obtain ⟨i, hi, he⟩ := mem_lst.1 hm
    exact hx i hi e he (by simpa using hn)
theorem Sp.yes {N : Nat} {s : Nat → Option En} (h : Sp N s) {nm : ByteArray} {e : En} : volOf (lst s) nm = some e ↔ ∃ i, i < 8 ∧ s i = some e ∧ strOfNums e.nm = nm := by
  constructor
  · intro hf
    unfold volOf at hf
    have hn := List.find?_some hf
    obtain ⟨i, hi, he⟩ := mem_lst.1 (List.mem_of_find?_eq_some hf)
    exact ⟨i, hi, he, by simpa using hn⟩
  · rintro ⟨i, hi, he, hn⟩
    cases hv : volOf (lst s) nm with
    | none => exact absurd hn (no_lst.1 hv i hi e he)
    | some e' =>
      unfold volOf at hv
      have hn' := List.find?_some hv
      obtain ⟨j, hj, he'⟩ := mem_lst.1 (List.mem_of_find?_eq_some hv)
      have hn' : strOfNums e'.nm = nm := by simpa using hn'
      have := h.one hi hj he he' (hn.trans hn'.symm)
      subst this
      rw [he] at he'
      exact he'.symm
theorem Sp.taken {N : Nat} {s : Nat → Option En} (h : Sp N s) {j : Nat} (hj : j < 8) : takenV (lst s) j = (s j).isSome := by
  rw [Bool.eq_iff_iff]
  unfold takenV
  rw [List.any_eq_true]
  constructor
  · rintro ⟨e, hm, hi⟩
    obtain ⟨i, hi8, he⟩ := mem_lst.1 hm
    have := (h.ok i e hi8 he).2.2
    have hi : e.i = j := by simpa using hi
    have : i = j := by omega
    subst this
    rw [he]; rfl
  · intro hs
    obtain ⟨e, he⟩ := Option.isSome_iff_exists.1 hs
    exact ⟨e, mem_lst.2 ⟨j, hj, he⟩, by simpa using (h.ok j e hj he).2.2⟩
theorem feF_or (ts : Nat → Bool) : ∀ k, k ≤ 8 → (feF ts k = -1 ∧ ∀ i, 8 - k ≤ i → i < 8 → ts i = true) ∨ (∃ j : Nat, feF ts k = j ∧ 8 - k ≤ j ∧ j < 8 ∧ ts j = false ∧ ∀ i, 8 - k ≤ i → i < j → ts i = true)
  | 0, _ => Or.inl ⟨rfl, fun i h1 h2 => by omega⟩
  | k + 1, hk => by
    unfold feF
    cases ht : ts (7 - k) with
    | false =>
      refine Or.inr ⟨7 - k, by simp, by omega, by omega, ht, fun i h1 h2 => by omega⟩
    | true =>
      rw [if_pos rfl]
      rcases feF_or ts k (by omega) with ⟨h1, h2⟩ | ⟨j, h1, h2, h3, h4, h5⟩
      · refine Or.inl ⟨h1, fun i h3 h4 => ?_⟩
        by_cases c : i = 7 - k
        · rw [c]; exact ht
        · exact h2 i (by omega) h4
      · refine Or.inr ⟨j, h1, by omega, h3, h4, fun i h6 h7 => ?_⟩
        by_cases c : i = 7 - k
        · rw [c]; exact ht
        · exact h5 i (by omega) h7
theorem seek_or {us : Nat → Bool} {N n : Nat} : ∀ (m p : Nat), N < p + m → (seekL us N n m p = none ∧ ∀ b, p ≤ b → b + n ≤ N → fitsAt us n b = false) ∨ (∃ a, seekL us N n m p = some a ∧ p ≤ a ∧ a + n ≤ N ∧ fitsAt us n a = true ∧ ∀ b, p ≤ b → b < a → fitsAt us n b = false)
  | 0, p, h => Or.inl ⟨rfl, fun b h1 h2 => by omega⟩
  | m + 1, p, h => by
    unfold seekL
    by_cases c : p + n ≤ N
    · rw [if_pos c]
      cases hf : fitsAt us n p with
      | true => exact Or.inr ⟨p, by simp, Nat.le_refl _, c, hf, fun b h1 h2 => by omega⟩
      | false =>
        rw [if_neg (by simp)]
        rcases seek_or (us := us) (N := N) (n := n) m (p + 1) (by omega) with ⟨h1, h2⟩ | ⟨a, h1, h2, h3, h4, h5⟩
        · refine Or.inl ⟨h1, fun b h3 h4 => ?_⟩
          by_cases e : b = p
          · rw [e]; exact hf
          · exact h2 b (by omega) h4
        · refine Or.inr ⟨a, h1, by omega, h3, h4, fun b h6 h7 => ?_⟩
          by_cases e : b = p
          · rw [e]; exact hf
          · exact h5 b (by omega) h7
    · rw [if_neg c]
      exact Or.inl ⟨rfl, fun b h1 h2 => by omega⟩
theorem fits_iff {V : List En} {a n : Nat} (hn : 1 ≤ n) (hV : ∀ e ∈ V, 0 ≤ e.f ∧ 1 ≤ e.n) : fitsAt (usedV V) n a = true ↔ ∀ e ∈ V, e.f + e.n ≤ a ∨ ((a + n : Nat) : Int) ≤ e.f := by
  unfold fitsAt
  rw [List.all_eq_true]
  constructor
  · intro h e he
    have h1 := hV e he
    by_cases c : e.f + e.n ≤ a
    · exact Or.inl c
    · by_cases c2 : ((a + n : Nat) : Int) ≤ e.f
      · exact Or.inr c2
      · exfalso
        obtain ⟨k, hk⟩ : ∃ k : Nat, k < n ∧ e.f ≤ (a + k : Nat) ∧ ((a + k : Nat) : Int) < e.f + e.n := by
          by_cases c3 : e.f ≤ a
          · exact ⟨0, by omega, by omega, by omega⟩
          · exact ⟨(e.f - a).toNat, by omega, by omega, by omega⟩
        have := h k (List.mem_range.2 hk.1)
        have hu : usedV V (a + k) = true := by
          unfold usedV
          rw [List.any_eq_true]
          exact ⟨e, he, by simpa using hk.2⟩
        rw [hu] at this
        cases this
  · intro h k hk
    have hk := List.mem_range.1 hk
    cases hu : usedV V (a + k) with
    | false => rfl
    | true =>
      unfold usedV at hu
      rw [List.any_eq_true] at hu
      obtain ⟨e, he, h2⟩ := hu
      have h2 : e.f ≤ (a + k : Nat) ∧ ((a + k : Nat) : Int) < e.f + e.n := by simpa using h2
      rcases h e he with h3 | h3 <;> omega
/-- Where a volume of n sectors may lie. -/
def Fits (N : Nat) (s : Nat → Option En) (n a : Nat) : Prop := 8 ≤ a ∧ a + n ≤ N ∧ ∀ i, i < 8 → ∀ e, s i = some e → e.f + e.n ≤ a ∨ ((a + n : Nat) : Int) ≤ e.f
theorem Sp.fits {N : Nat} {s : Nat → Option En} (h : Sp N s) {n a : Nat} (hn : 1 ≤ n) (ha : 8 ≤ a ∧ a + n ≤ N) : fitsAt (usedV (lst s)) n a = true ↔ Fits N s n a := by
  rw [fits_iff hn (fun e he => by
    obtain ⟨i, hi, he⟩ := mem_lst.1 he
    have := (h.ok i e hi he).1
    exact ⟨by have := this.f; omega, this.n⟩)]
  constructor
  · exact fun hx => ⟨ha.1, ha.2, fun i hi e he => hx e (mem_lst.2 ⟨i, hi, he⟩)⟩
  · intro hx e he
    obtain ⟨i, hi, he⟩ := mem_lst.1 he
    exact hx.2.2 i hi e he
/-- The room found: the least free place, the least sectors. -/
theorem Sp.room {N : Nat} {s : Nat → Option En} (h : Sp N s) {n : Nat} (hn : 1 ≤ n) :
    (roomL N (lst s) n = none ∧ ((∀ i, i < 8 → (s i).isSome = true) ∨ ∀ a, ¬ Fits N s n a)) ∨
    (∃ a j : Nat, roomL N (lst s) n = some (a, (j : Int)) ∧ j < 8 ∧ s j = none ∧ (∀ i, i < j → (s i).isSome = true) ∧ Fits N s n a ∧ ∀ b, b < a → ¬ Fits N s n b) := by
  unfold roomL
  rcases feF_or (takenV (lst s)) 8 (Nat.le_refl _) with ⟨h1, h2⟩ | ⟨j, h1, h2, h3, h4, h5⟩
  · left
    rw [if_pos (by omega)]
    exact ⟨rfl, Or.inl fun i hi => by rw [← h.taken hi]; exact h2 i (by omega) hi⟩
  · rw [h1, if_neg (by omega)]
    have hj : s j = none := by rw [h.taken h3] at h4; cases hs : s j with | none => rfl | some e => rw [hs] at h4; cases h4
    have hl : ∀ i, i < j → (s i).isSome = true := fun i hi => by rw [← h.taken (by omega)]; exact h5 i (by omega) hi
    rcases seek_or (us := usedV (lst s)) (N := N) (n := n) (N + 1) 8 (by omega) with ⟨h6, h7⟩ | ⟨a, h6, h7, h8, h9, h10⟩
    · left
      rw [h6]
      refine ⟨rfl, Or.inr fun a hf => ?_⟩
      have := h7 a hf.1 hf.2.1
      rw [(h.fits hn ⟨hf.1, hf.2.1⟩).2 hf] at this
      cases this
    · right
      rw [h6]
      refine ⟨a, j, rfl, h3, hj, hl, (h.fits hn ⟨h7, h8⟩).1 h9, fun b hb hf => ?_⟩
      have := h10 b hf.1 hb
      rw [(h.fits hn ⟨hf.1, hf.2.1⟩).2 hf] at this
      cases this
theorem bs_nums (nm : ByteArray) : bs (strOfNums (nums nm)) = bs nm := by rw [str_nums]
theorem Sp.add {N : Nat} {s : Nat → Option En} (h : Sp N s) {nm : ByteArray} (hg : goodS (bs nm) = true) (hno : volOf (lst s) nm = none) {n a j : Nat} (hn : 1 ≤ n) (_ : j < 8) (hf : Fits N s n a) : Sp N (upd s j (some ⟨nums nm, a, n, j⟩)) := by
  have hgl := good_len hg
  have hap : ∀ i, i < 8 → ∀ e, s i = some e → apart e ⟨nums nm, a, n, j⟩ = true := fun i hi e he => by
    unfold apart
    rw [decide_eq_true (by
      show ¬ strOfNums e.nm = strOfNums (nums nm)
      rw [str_nums]
      exact no_lst.1 hno i hi e he)]
    show (true && (decide (e.f + e.n ≤ (a : Int)) || decide ((a : Int) + n ≤ e.f))) = true
    rcases hf.2.2 i hi e he with h5 | h5
    · simp [h5]
    · rw [decide_eq_true (show (a : Int) + n ≤ e.f by omega)]; simp
  refine ⟨fun i e hi he => ?_, fun i k e e' hik hk h1 h2 => ?_⟩
  · unfold upd at he
    split at he
    · next c =>
      injection he with he
      subst he
      refine ⟨⟨by show 8 ≤ (a : Int); have := hf.1; omega, by show 1 ≤ (n : Int); omega, by show (a : Int) + n ≤ N; have := hf.2.1; omega, by show 0 ≤ (j : Int) ∧ (j : Int) ≤ 7; omega, ⟨nums_b8 nm, by rw [nums_len]; exact hgl.1, by rw [nums_len]; exact hgl.2⟩⟩, by rw [bs_nums]; exact hg, by show (j : Int) = i; omega⟩
    · exact h.ok i e hi he
  · unfold upd at h1 h2
    split at h1
    · rw [if_neg (by omega)] at h2
      injection h1 with h1
      subst h1
      rw [apart_comm]
      exact hap k hk e' h2
    · split at h2
      · injection h2 with h2
        subst h2
        exact hap i (by omega) e h1
      · exact h.ap i k e e' hik hk h1 h2
theorem Sp.del {N : Nat} {s : Nat → Option En} (h : Sp N s) (j : Nat) : Sp N (upd s j none) := by
  refine ⟨fun i e hi he => ?_, fun i k e e' hik hk h1 h2 => ?_⟩
  · unfold upd at he
    split at he
    · cases he
    · exact h.ok i e hi he
  · unfold upd at h1 h2
    split at h1
    · cases h1
    · split at h2
      · cases h2
      · exact h.ap i k e e' hik hk h1 h2
theorem Sp.ren {N : Nat} {s : Nat → Option En} (h : Sp N s) {j : Nat} (hj : j < 8) {e : En} (he : s j = some e) {nm : ByteArray} (hg : goodS (bs nm) = true) (hno : volOf (lst s) nm = none) : Sp N (upd s j (some ⟨nums nm, e.f, e.n, j⟩)) := by
  have hgl := good_len hg
  have hok := (h.ok j e hj he).1
  have hap : ∀ i, i < 8 → i ≠ j → ∀ x, s i = some x → apart x ⟨nums nm, e.f, e.n, j⟩ = true := fun i hi hij x hx => by
    have hap : apart x e = true := by
      rcases Nat.lt_or_gt_of_ne hij with c | c
      · exact h.ap i j x e c hj hx he
      · rw [apart_comm]; exact h.ap j i e x c hi he hx
    unfold apart at hap ⊢
    rw [decide_eq_true (by
      show ¬ strOfNums x.nm = strOfNums (nums nm)
      rw [str_nums]
      exact no_lst.1 hno i hi x hx)]
    rw [Bool.and_eq_true] at hap
    simpa using hap.2
  refine ⟨fun i x hi hx => ?_, fun i k x y hik hk h1 h2 => ?_⟩
  · unfold upd at hx
    split at hx
    · injection hx with hx
      subst hx
      exact ⟨⟨hok.f, hok.n, hok.fn, by show 0 ≤ (j : Int) ∧ (j : Int) ≤ 7; omega, ⟨nums_b8 nm, by rw [nums_len]; exact hgl.1, by rw [nums_len]; exact hgl.2⟩⟩, by rw [bs_nums]; exact hg, by show (j : Int) = i; omega⟩
    · exact h.ok i x hi hx
  · unfold upd at h1 h2
    split at h1
    · rw [if_neg (by omega)] at h2
      injection h1 with h1
      subst h1
      rw [apart_comm]
      exact hap k hk (by omega) y h2
    · next c1 =>
      split at h2
      · injection h2 with h2
        subst h2
        exact hap i (by omega) c1 x h1
      · exact h.ap i k x y hik hk h1 h2
/-- A disk of N sectors with its places. -/
structure Dp (N : Nat) (l : List Int) (s : Nat → Option En) : Prop where
  pl : Pl N l s
  b8 : B8 l
  len : l.length = N * 32
  N9 : 9 ≤ N ∧ N ≤ 512
theorem Dp.sp {N : Nat} {l : List Int} {s : Nat → Option En} (h : Dp N l s) : Sp N s := ⟨fun i e hi he => by
  have h1 := h.pl.ok h.b8 h.len (by have := h.N9; omega) hi he
  exact ⟨h1.1, h1.2, h.pl.at hi he⟩, h.pl.ap⟩
theorem Dp.vol {N : Nat} {l : List Int} {s : Nat → Option En} (h : Dp N l s) : volL N l = lst s := h.pl.vol
/-- A volume more. -/
theorem Dp.add {N : Nat} {l : List Int} {s : Nat → Option En} (h : Dp N l s) {nm : ByteArray} (hg : goodS (bs nm) = true) (hno : volOf (lst s) nm = none) {n a j : Nat} (hn : 1 ≤ n) (hj : j < 8) (hf : Fits N s n a) (d : List Int) (hd : B8 d) :
    Dp N (wrL (wrL l a n d) j 1 (bytesE (nums nm) a n)) (upd s j (some ⟨nums nm, a, n, j⟩)) := by
  have hlen := h.len
  have h1 : (a + n) * 32 ≤ l.length := by have := hf.2.1; rw [hlen]; omega
  have hgl := good_len hg
  have p1 : Pl N (wrL l a n d) s := h.pl.data hf.1 h1
  have hl2 : (wrL l a n d).length = N * 32 := by rw [wrL_len h1]; exact hlen
  have hN := h.N9
  have h2 : (j + 1) * 32 ≤ (wrL l a n d).length := by rw [hl2]; omega
  have hS := (h.sp.add hg hno hn hj hf)
  refine ⟨p1.put hN.2 h2 (by rw [bs_nums]; exact hg) (by rw [nums_len]; exact hgl) (by have := hf.1; omega) (by omega) (by have := hf.2.1; omega) ?_, wrL_b8 (wrL_b8 h.b8 hd) (bytesE_b8 (nums_b8 nm) _ _), by rw [wrL_len h2, hl2], hN⟩
  intro i hi hij e he
  have e1 : upd s j (some ⟨nums nm, a, n, j⟩) i = some e := by unfold upd; rw [if_neg hij]; exact he
  have e2 : upd s j (some ⟨nums nm, a, n, j⟩) j = some ⟨nums nm, a, n, j⟩ := by unfold upd; rw [if_pos rfl]
  rcases Nat.lt_or_gt_of_ne hij with c | c
  · exact hS.ap i j e _ c hj e1 e2
  · rw [apart_comm]; exact hS.ap j i _ e c hi e2 e1
/-- A volume less. -/
theorem Dp.del {N : Nat} {l : List Int} {s : Nat → Option En} (h : Dp N l s) {j : Nat} (hj : j < 8) : Dp N (wrL l j 1 []) (upd s j none) := by
  have h2 : (j + 1) * 32 ≤ l.length := by rw [h.len]; have := h.N9; omega
  exact ⟨h.pl.free h2, wrL_b8 h.b8 (fun x hx => by cases hx), by rw [wrL_len h2]; exact h.len, h.N9⟩
/-- A volume's name. -/
theorem Dp.ren {N : Nat} {l : List Int} {s : Nat → Option En} (h : Dp N l s) {j : Nat} (hj : j < 8) {e : En} (he : s j = some e) {nm : ByteArray} (hg : goodS (bs nm) = true) (hno : volOf (lst s) nm = none) :
    Dp N (wrL l j 1 (bytesE (nums nm) e.f e.n)) (upd s j (some ⟨nums nm, e.f, e.n, j⟩)) := by
  have h2 : (j + 1) * 32 ≤ l.length := by rw [h.len]; have := h.N9; omega
  have hok := (h.sp.ok j e hj he).1
  have hgl := good_len hg
  have hS := h.sp.ren hj he hg hno
  refine ⟨h.pl.put h.N9.2 h2 (by rw [bs_nums]; exact hg) (by rw [nums_len]; exact hgl) hok.f hok.n hok.fn ?_, wrL_b8 h.b8 (bytesE_b8 (nums_b8 nm) _ _), by rw [wrL_len h2]; exact h.len, h.N9⟩
  intro i hi hij x hx
  have e1 : upd s j (some ⟨nums nm, e.f, e.n, j⟩) i = some x := by unfold upd; rw [if_neg hij]; exact hx
  have e2 : upd s j (some ⟨nums nm, e.f, e.n, j⟩) j = some ⟨nums nm, e.f, e.n, j⟩ := by unfold upd; rw [if_pos rfl]
  rcases Nat.lt_or_gt_of_ne hij with c | c
  · exact hS.ap i j x _ c hj e1 e2
  · rw [apart_comm]; exact hS.ap j i _ x c hi e2 e1
/-- A write within a volume. -/
theorem Dp.wr {N : Nat} {l : List Int} {s : Nat → Option En} (h : Dp N l s) {a n : Nat} (ha : 8 ≤ a) (hn : a + n ≤ N) {d : List Int} (hd : B8 d) : Dp N (wrL l a n d) s := by
  have h1 : (a + n) * 32 ≤ l.length := by rw [h.len]; omega
  exact ⟨h.pl.data ha h1, wrL_b8 h.b8 hd, by rw [wrL_len h1]; exact h.len, h.N9⟩
/-- The sectors, the places, the error that a call leaves. -/
structure Rs where
  l : List Int
  s : Nat → Option En
  e : Int
def createS (N : Nat) (l : List Int) (s : Nat → Option En) (nm : ByteArray) (n : Int) : Rs :=
  if goodS (bs nm) = false ∨ n < 1 ∨ 512 < n then ⟨l, s, 1⟩ else if (volOf (lst s) nm).isSome then ⟨l, s, 8⟩ else match roomL N (lst s) n.toNat with
    | none => ⟨l, s, 5⟩
    | some (a, j) => ⟨wrL (wrL l a n.toNat []) j.toNat 1 (bytesE (nums nm) a n), upd s j.toNat (some ⟨nums nm, a, n, j⟩), 0⟩
def deleteS (l : List Int) (s : Nat → Option En) (nm : ByteArray) : Rs := match volOf (lst s) nm with
  | none => ⟨l, s, 4⟩
  | some x => ⟨wrL l x.i.toNat 1 [], upd s x.i.toNat none, 0⟩
def renameS (l : List Int) (s : Nat → Option En) (nm nt : ByteArray) : Rs := match volOf (lst s) nm with
  | none => ⟨l, s, 4⟩
  | some x => if goodS (bs nt) = false then ⟨l, s, 1⟩ else if (volOf (lst s) nt).isSome then ⟨l, s, 8⟩ else ⟨wrL l x.i.toNat 1 (bytesE (nums nt) x.f x.n), upd s x.i.toNat (some ⟨nums nt, x.f, x.n, x.i⟩), 0⟩
def cloneS (N : Nat) (l : List Int) (s : Nat → Option En) (nm nt : ByteArray) : Rs := match volOf (lst s) nm with
  | none => ⟨l, s, 4⟩
  | some x => if goodS (bs nt) = false then ⟨l, s, 1⟩ else if (volOf (lst s) nt).isSome then ⟨l, s, 8⟩ else match roomL N (lst s) x.n.toNat with
    | none => ⟨l, s, 5⟩
    | some (a, j) => ⟨wrL (wrL l a x.n.toNat (rdL l x.f.toNat x.n.toNat)) j.toNat 1 (bytesE (nums nt) a x.n), upd s j.toNat (some ⟨nums nt, a, x.n, j⟩), 0⟩
def placeS (s : Nat → Option En) (nm : ByteArray) (p n : Int) : Int × Int := match volOf (lst s) nm with
  | none => (0, 4)
  | some x => if okR x.n p n then (x.f + p, 0) else (0, 1)
def writeS (l : List Int) (s : Nat → Option En) (nm : ByteArray) (p n : Int) (d : ByteArray) : Rs := if (placeS s nm p n).2 = 0 then ⟨wrL l (placeS s nm p n).1.toNat n.toNat (nums d), s, 0⟩ else ⟨l, s, (placeS s nm p n).2⟩
def readS (l : List Int) (s : Nat → Option En) (nm : ByteArray) (p n : Int) : List Int × Int := if (placeS s nm p n).2 = 0 then (rdL l (placeS s nm p n).1.toNat n.toNat, 0) else ([], (placeS s nm p n).2)
/-- A call's sectors and places, well formed. -/
structure Ds (N : Nat) (l : List Int) (s : Nat → Option En) : Prop where
  sp : Sp N s
  b8 : B8 l
  len : l.length = N * 32
  N9 : 9 ≤ N ∧ N ≤ 512
theorem Dp.ds {N : Nat} {l : List Int} {s : Nat → Option En} (h : Dp N l s) : Ds N l s := ⟨h.sp, h.b8, h.len, h.N9⟩
theorem b8_nil : B8 [] := fun x hx => by cases hx
theorem Ds.wr {N : Nat} {l : List Int} {s s' : Nat → Option En} (h : Ds N l s) (hs : Sp N s') {a n : Nat} (hn : a + n ≤ N) {d : List Int} (hd : B8 d) : Ds N (wrL l a n d) s' := by
  have h1 : (a + n) * 32 ≤ l.length := by rw [h.len]; omega
  exact ⟨hs, wrL_b8 h.b8 hd, by rw [wrL_len h1]; exact h.len, h.N9⟩
theorem place_or {N : Nat} {s : Nat → Option En} (h : Sp N s) (nm : ByteArray) (p n : Int) : ((placeS s nm p n).2 ≠ 0 ∧ (placeS s nm p n).1 = 0) ∨ (∃ (i a k : Nat) (x : En), (placeS s nm p n).2 = 0 ∧ (placeS s nm p n).1 = a ∧ n = k ∧ 1 ≤ k ∧ 8 ≤ a ∧ a + k ≤ N ∧ i < 8 ∧ s i = some x ∧ strOfNums x.nm = nm ∧ x.f ≤ a ∧ ((a + k : Nat) : Int) ≤ x.f + x.n ∧ (a : Int) = x.f + p) := by
  cases hv : volOf (lst s) nm with
  | none =>
    have e : placeS s nm p n = (0, 4) := by unfold placeS; rw [hv]
    left; rw [e]; exact ⟨by decide, rfl⟩
  | some x =>
    have e : placeS s nm p n = if okR x.n p n then (x.f + p, 0) else (0, 1) := by unfold placeS; rw [hv]
    rw [e]
    cases hk : okR x.n p n with
    | false => left; exact ⟨by simp, rfl⟩
    | true =>
      right
      obtain ⟨i, hi, hx, hn⟩ := h.yes.1 hv
      have hok := (h.ok i x hi hx).1
      have h1 := hok.f; have h2 := hok.fn
      have h3 := okR_iff.1 hk
      exact ⟨i, (x.f + p).toNat, n.toNat, x, rfl, by show x.f + p = ((x.f + p).toNat : Int); omega, by omega, by omega, by omega, by omega, hi, hx, hn, by omega, by omega, by omega⟩
end Tg
end Go.Proofs.YtjgnajopomadpaaGreat
