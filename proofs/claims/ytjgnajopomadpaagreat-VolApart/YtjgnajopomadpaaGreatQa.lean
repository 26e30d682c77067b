/-
  Which volumes a disk's bytes tell behind a write (mathematics).
-/
import Derived.Test.YtjgnajopomadpaaGreatPo
namespace Go.Proofs.YtjgnajopomadpaaGreat
open Go.ChangeShapes Go.WideShapes Go.ChangeAt Go.RowKit
namespace Tg
open Qm Crc
theorem rdL_at (l : List Int) (a n k : Nat) : (rdL l a n)[k]? = if k < n * 32 then l[a * 32 + k]? else none := by
  unfold rdL
  rw [List.getElem?_drop, List.getElem?_take]
  by_cases h : k < n * 32
  · rw [if_pos (by omega), if_pos h]
  · rw [if_neg (by omega), if_neg h]
theorem rd_other {l : List Int} {a n : Nat} {d : List Int} (h : (a + n) * 32 ≤ l.length) {b m : Nat} (hb : b + m ≤ a ∨ a + n ≤ b) : rdL (wrL l a n d) b m = rdL l b m := by
  apply List.ext_getElem?
  intro k
  rw [rdL_at, rdL_at]
  split
  · rw [wrL_at h]
    rcases hb with hb | hb
    · rw [if_pos (by omega)]
    · rw [if_neg (by omega), if_neg (by omega)]
  · rfl
theorem ent_other {N : Int} {l : List Int} {a n : Nat} {d : List Int} (h : (a + n) * 32 ≤ l.length) {i : Nat} (hi : i + 1 ≤ a ∨ a + n ≤ i) : entL N (wrL l a n d) i = entL N l i := by
  unfold entL
  rw [rd_other h hi]
theorem ent_free {N : Int} {l : List Int} {j : Nat} (h : (j + 1) * 32 ≤ l.length) : entL N (wrL l j 1 []) j = none := by
  unfold entL
  rw [rd_wr h, padL_nil, if_neg]
  unfold entOk
  rw [show (List.replicate (1 * 32) (0 : Int)).getD 1 0 = 0 from rfl]
  simp
theorem bytesE_len {nm : List Int} (h : nm.length ≤ 16) (f n : Int) : (bytesE nm f n).length = 32 := by
  unfold bytesE
  rw [List.length_append, List.length_append, headE_len h]
  simp [le4]
theorem headE_at (nm : List Int) (f n : Int) : headE nm f n = 86 :: ((nm.length : Int) % 256) :: (nm ++ (List.replicate (16 - nm.length) 0 ++ [f % 256, f / 256 % 256, n % 256, n / 256 % 256])) := by
  unfold headE; simp
theorem bytesE_at (nm : List Int) (f n : Int) : ∃ t, bytesE nm f n = 86 :: ((nm.length : Int) % 256) :: (nm ++ (List.replicate (16 - nm.length) 0 ++ (f % 256 :: f / 256 % 256 :: n % 256 :: n / 256 % 256 :: t))) := by
  refine ⟨le4 (val (more 0#32 (headE nm f n))) ++ List.replicate 6 0, ?_⟩
  unfold bytesE
  rw [headE_at nm]
  simp
theorem get_behind (nm : List Int) (h : nm.length ≤ 16) (r : List Int) (k : Nat) : (86 :: ((nm.length : Int) % 256) :: (nm ++ (List.replicate (16 - nm.length) 0 ++ r))).getD (18 + k) 0 = r.getD k 0 := by
  rw [List.getD_eq_getElem?_getD, List.getD_eq_getElem?_getD]
  congr 1
  rw [show 18 + k = (16 + k) + 1 + 1 by omega, List.getElem?_cons_succ, List.getElem?_cons_succ, List.getElem?_append_right (by omega), List.getElem?_append_right (by rw [List.length_replicate]; omega), List.length_replicate]
  congr 1
  omega
theorem ent_bytes {nm : List Int} (h : nm.length ≤ 16) {f n : Int} (hf : 0 ≤ f ∧ f ≤ 512) (hn : 0 ≤ n ∧ n ≤ 512) (i : Int) : entE (bytesE nm f n) i = ⟨nm, f, n, i⟩ ∧ (bytesE nm f n).getD 1 0 = nm.length := by
  obtain ⟨t, e⟩ := bytesE_at nm f n
  have e1 : (bytesE nm f n).getD 1 0 = nm.length := by
    rw [e]
    show (nm.length : Int) % 256 = _
    omega
  refine ⟨?_, e1⟩
  unfold entE
  rw [e1, e, show (18 : Nat) = 18 + 0 from rfl, show (19 : Nat) = 18 + 1 from rfl, show (20 : Nat) = 18 + 2 from rfl, show (21 : Nat) = 18 + 3 from rfl, get_behind nm h, get_behind nm h, get_behind nm h, get_behind nm h]
  have e2 : ((86 :: ((nm.length : Int) % 256) :: (nm ++ (List.replicate (16 - nm.length) 0 ++ (f % 256 :: f / 256 % 256 :: n % 256 :: n / 256 % 256 :: t)))).take (2 + (nm.length : Int).toNat)).drop 2 = nm := by
    rw [show (nm.length : Int).toNat = nm.length by omega, show 2 + nm.length = nm.length + 1 + 1 by omega, List.take_succ_cons, List.take_succ_cons]
    show List.take nm.length _ = nm
    rw [List.take_left]
  rw [e2]
  have h3 : (f % 256 :: f / 256 % 256 :: n % 256 :: n / 256 % 256 :: t).getD 0 0 + 256 * (f % 256 :: f / 256 % 256 :: n % 256 :: n / 256 % 256 :: t).getD 1 0 = f := by
    show f % 256 + 256 * (f / 256 % 256) = f; omega
  have h4 : (f % 256 :: f / 256 % 256 :: n % 256 :: n / 256 % 256 :: t).getD 2 0 + 256 * (f % 256 :: f / 256 % 256 :: n % 256 :: n / 256 % 256 :: t).getD 3 0 = n := by
    show n % 256 + 256 * (n / 256 % 256) = n; omega
  rw [h3, h4]
/-- An entry written reads as it was. -/
theorem ent_put {N : Nat} {l : List Int} (hN : N ≤ 512) {j : Nat} (h : (j + 1) * 32 ≤ l.length) {nm : List Int} (hg : goodS (bs (strOfNums nm)) = true) (hl : 1 ≤ nm.length ∧ nm.length ≤ 16) {f n : Int} (hf : 8 ≤ f) (hn : 1 ≤ n) (hfn : f + n ≤ N) :
    entL N (wrL l j 1 (bytesE nm f n)) j = some ⟨nm, f, n, j⟩ := by
  have hb := fun i => ent_bytes hl.2 (f := f) (n := n) (by omega) (by omega) i
  have e : rdL (wrL l j 1 (bytesE nm f n)) j 1 = bytesE nm f n := by
    rw [rd_wr h]
    unfold padL
    rw [show 1 * 32 = 32 from rfl, List.take_of_length_le (by rw [bytesE_len hl.2]; omega), bytesE_len hl.2]
    simp
  unfold entL
  rw [e, if_pos, (hb j).1]
  unfold entOk
  rw [(hb 0).2, (hb 0).1]
  simp only [hg, Bool.and_eq_true, decide_eq_true_eq]
  exact ⟨by omega, trivial, hf, hn, hfn, trivial⟩
/-- No entry is free only for one ahead of it. -/
def NS (N : Int) (l : List Int) : Prop := ∀ i j e e', i < j → j < 8 → entL N l i = some e → entL N l j = some e' → apart e e' = true
theorem volK_ns {N : Int} {l : List Int} (h : NS N l) : ∀ k, k ≤ 8 → volK N l k = (List.range k).filterMap (entL N l)
  | 0, _ => rfl
  | k + 1, hk => by
    show vstep (entL N l k) (volK N l k) = _
    rw [volK_ns h k (by omega), List.range_succ, List.filterMap_append]
    unfold vstep
    cases he : entL N l k with
    | none => simp [he]
    | some e =>
      show (if _ then _ else _) = _
      rw [if_pos]
      · simp [he]
      · rw [List.all_eq_true]
        intro a ha
        obtain ⟨i, hi, hia⟩ := List.mem_filterMap.1 ha
        exact h i k a e (List.mem_range.1 hi) (by omega) hia he
theorem volK_le (N : Int) (l : List Int) : ∀ k, (volK N l k).length ≤ cntE N l k
  | 0 => Nat.le_refl _
  | k + 1 => by
    have h := volK_le N l k
    show (vstep (entL N l k) (volK N l k)).length ≤ cntE N l k + _
    unfold vstep
    cases entL N l k with
    | none => show _ ≤ cntE N l k + 0; exact h
    | some e =>
      show (if _ then _ else _ : List En).length ≤ cntE N l k + 1
      split
      · rw [List.length_append]; simp; omega
      · omega
theorem cnt_back {N : Int} {l : List Int} : ∀ k, cntE N l k = (volK N l k).length → (∀ i j e e', i < j → j < k → entL N l i = some e → entL N l j = some e' → apart e e' = true) ∧ volK N l k = (List.range k).filterMap (entL N l)
  | 0, _ => ⟨fun _ _ _ _ _ h => by omega, rfl⟩
  | k + 1, h => by
    have hle := volK_le N l k
    have h : cntE N l k + (if (entL N l k).isSome then 1 else 0) = (vstep (entL N l k) (volK N l k)).length := h
    unfold vstep at h
    cases he : entL N l k with
    | none =>
      rw [he] at h
      obtain ⟨h1, h2⟩ := cnt_back k h
      refine ⟨fun i j e e' hij hj hi hj' => ?_, ?_⟩
      · by_cases hjk : j = k
        · subst hjk; rw [he] at hj'; cases hj'
        · exact h1 i j e e' hij (by omega) hi hj'
      · show vstep (entL N l k) (volK N l k) = _
        rw [he, List.range_succ, List.filterMap_append, h2]
        simp [vstep, he]
    | some x =>
      rw [he] at h
      have h : cntE N l k + 1 = (if (volK N l k).all (fun a => apart a x) then volK N l k ++ [x] else volK N l k).length := h
      split at h
      · next hall =>
        rw [List.length_append] at h
        obtain ⟨h1, h2⟩ := cnt_back k (by simpa using h)
        refine ⟨fun i j e e' hij hj hi hj' => ?_, ?_⟩
        · by_cases hjk : j = k
          · subst hjk
            rw [he] at hj'
            injection hj' with hj'
            subst hj'
            exact List.all_eq_true.1 hall e (by rw [h2]; exact List.mem_filterMap.2 ⟨i, List.mem_range.2 hij, hi⟩)
          · exact h1 i j e e' hij (by omega) hi hj'
        · show vstep (entL N l k) (volK N l k) = _
          rw [he, List.range_succ, List.filterMap_append]
          unfold vstep
          show (if _ then _ else _) = _
          rw [if_pos hall, h2]
          simp [he]
      · omega
theorem ns_of {N : Int} {l : List Int} (h : cntE N l 8 = (volL N l).length) : NS N l := (cnt_back 8 h).1
theorem vol_ns {N : Int} {l : List Int} (h : NS N l) : volL N l = (List.range 8).filterMap (entL N l) := volK_ns h 8 (Nat.le_refl _)
/-- Eight places, one of them set anew. -/
def upd (s : Nat → Option En) (j : Nat) (o : Option En) (i : Nat) : Option En := if i = j then o else s i
/-- What the first eight sectors tell, place by place, no two of them together. -/
structure Pl (N : Int) (l : List Int) (s : Nat → Option En) : Prop where
  ent : ∀ i, i < 8 → entL N l i = s i
  ap : ∀ i j e e', i < j → j < 8 → s i = some e → s j = some e' → apart e e' = true
theorem Pl.of {N : Int} {l : List Int} (h : NS N l) : Pl N l (entL N l) := ⟨fun _ _ => rfl, h⟩
theorem Pl.ns {N : Int} {l : List Int} {s : Nat → Option En} (h : Pl N l s) : NS N l := fun i j e e' hij hj hi hj' => h.ap i j e e' hij hj (by rw [← h.ent i (by omega)]; exact hi) (by rw [← h.ent j hj]; exact hj')
theorem fm_congr {s t : Nat → Option En} : ∀ {l : List Nat}, (∀ i ∈ l, s i = t i) → l.filterMap s = l.filterMap t
  | [], _ => rfl
  | i :: l, h => by
    rw [List.filterMap_cons, List.filterMap_cons, h i (by simp), fm_congr (fun j hj => h j (by simp [hj]))]
theorem Pl.vol {N : Int} {l : List Int} {s : Nat → Option En} (h : Pl N l s) : volL N l = (List.range 8).filterMap s := by
  rw [vol_ns h.ns]
  exact fm_congr (fun i hi => h.ent i (List.mem_range.1 hi))
theorem Pl.data {N : Int} {l : List Int} {s : Nat → Option En} (h : Pl N l s) {a n : Nat} {d : List Int} (ha : 8 ≤ a) (hl : (a + n) * 32 ≤ l.length) : Pl N (wrL l a n d) s :=
  ⟨fun i hi => by rw [ent_other hl (by omega)]; exact h.ent i hi, h.ap⟩
theorem Pl.free {N : Int} {l : List Int} {s : Nat → Option En} (h : Pl N l s) {j : Nat} (hl : (j + 1) * 32 ≤ l.length) : Pl N (wrL l j 1 []) (upd s j none) := by
  refine ⟨fun i hi => ?_, fun i k e e' hik hk h1 h2 => ?_⟩
  · unfold upd
    by_cases c : i = j
    · rw [if_pos c, c, ent_free hl]
    · rw [if_neg c, ent_other hl (by omega)]
      exact h.ent i hi
  · unfold upd at h1 h2
    split at h1
    · cases h1
    · split at h2
      · cases h2
      · exact h.ap i k e e' hik hk h1 h2
theorem apart_comm (a e : En) : apart a e = apart e a := by
  unfold apart
  have h1 : decide (¬ strOfNums a.nm = strOfNums e.nm) = decide (¬ strOfNums e.nm = strOfNums a.nm) := by rw [decide_eq_decide]; exact not_congr ⟨Eq.symm, Eq.symm⟩
  rw [h1, Bool.or_comm]
theorem Pl.put {N : Nat} {l : List Int} {s : Nat → Option En} (h : Pl N l s) (hN : N ≤ 512) {j : Nat} (hl : (j + 1) * 32 ≤ l.length) {nm : List Int} (hg : goodS (bs (strOfNums nm)) = true) (hn16 : 1 ≤ nm.length ∧ nm.length ≤ 16) {f n : Int} (hf : 8 ≤ f) (hn : 1 ≤ n) (hfn : f + n ≤ N)
    (hap : ∀ i, i < 8 → i ≠ j → ∀ e, s i = some e → apart e ⟨nm, f, n, j⟩ = true) : Pl N (wrL l j 1 (bytesE nm f n)) (upd s j (some ⟨nm, f, n, j⟩)) := by
  refine ⟨fun i hi => ?_, fun i k e e' hik hk h1 h2 => ?_⟩
  · unfold upd
    by_cases c : i = j
    · rw [if_pos c, c, ent_put hN hl hg hn16 hf hn hfn]
    · rw [if_neg c, ent_other hl (by omega)]
      exact h.ent i hi
  · unfold upd at h1 h2
    split at h1
    · next c1 =>
      rw [if_neg (by omega)] at h2
      injection h1 with h1
      subst h1
      rw [apart_comm]
      exact hap k hk (by omega) e' h2
    · next c1 =>
      split at h2
      · injection h2 with h2
        subst h2
        exact hap i (by omega) c1 e h1
      · exact h.ap i k e e' hik hk h1 h2
theorem Pl.at {N : Int} {l : List Int} {s : Nat → Option En} (h : Pl N l s) {i : Nat} {e : En} (hi : i < 8) (he : s i = some e) : e.i = i := by
  rw [← h.ent i hi] at he
  unfold entL at he
  split at he
  · injection he with he; subst he; rfl
  · cases he
theorem Pl.ok {N : Nat} {l : List Int} {s : Nat → Option En} (h : Pl N l s) (hb : B8 l) (hl : l.length = N * 32) (hN : 8 ≤ N) {i : Nat} {e : En} (hi : i < 8) (he : s i = some e) : e.Ok N ∧ goodS (bs (strOfNums e.nm)) = true := by
  rw [← h.ent i hi] at he
  refine ⟨entL_ok hb hl (by omega) (by omega) he, ?_⟩
  unfold entL at he
  split at he
  · next hk =>
    injection he with he
    subst he
    unfold entOk at hk
    simp only [Bool.and_eq_true] at hk
    exact hk.2.1
  · cases he
end Tg
end Go.Proofs.YtjgnajopomadpaaGreat
