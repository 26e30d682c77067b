/-
  What a store's calls answer (as they should), whatever its memory is.
-/
import Derived.Test.YtjgnajopomadpaaGreatRa
namespace Go.Proofs.YtjgnajopomadpaaGreat
open Go.ChangeShapes Go.WideShapes Go.ChangeAt Go.RowKit
namespace Tg
open Qm Crc
/-- The disk that an array is. -/
abbrev dk (p : Nat) : Value := .iface 23 (.pointer (some ⟨p, 0, none⟩))
/-- A program's entries in a row made since w0. -/
def vCs (l : List En) : List Value := l.flatMap (fun x => [.string (strOfNums x.nm), .int .i64 x.f, .int .i64 x.n])
def Vv (w0 w : World) (a : Option Addr) (cap : Nat) (l : List En) : Prop := Gw 53 3 w0 w a l.length cap (vCs l)
theorem vCs_at : ∀ {l : List En} {k : Nat} {x : En}, l[k]? = some x → ∀ j, j < 3 → (vCs l)[k * 3 + j]? = [Value.string (strOfNums x.nm), .int .i64 x.f, .int .i64 x.n][j]?
  | [], _, _, h, _, _ => by simp at h
  | y :: l, 0, x, h, j, hj => by
    have h : y = x := by simpa using h
    subst h
    show ([Value.string (strOfNums y.nm), .int .i64 y.f, .int .i64 y.n] ++ vCs l)[0 * 3 + j]? = _
    rw [List.getElem?_append_left (by simp; omega), Nat.zero_mul, Nat.zero_add]
  | y :: l, k + 1, x, h, j, hj => by
    show ([Value.string (strOfNums y.nm), .int .i64 y.f, .int .i64 y.n] ++ vCs l)[(k + 1) * 3 + j]? = _
    rw [List.getElem?_append_right (by simp; omega), show (k + 1) * 3 + j - [Value.string (strOfNums y.nm), .int .i64 y.f, .int .i64 y.n].length = k * 3 + j by simp; omega]
    exact vCs_at (by simpa using h) j hj
/-- The place that a disk's volumes have, each its own. -/
def plc (N : Int) (l : List Int) (i : Nat) : Option En := (volL N l).find? (fun e => decide (e.i = i))
theorem ent_i {N : Int} {l : List Int} {i : Nat} {e : En} (h : entL N l i = some e) : e.i = i := by
  unfold entL at h
  split at h
  · injection h with h; subst h; rfl
  · cases h
theorem volK_i {N : Int} {l : List Int} : ∀ k, ∀ e ∈ volK N l k, ∃ i, i < k ∧ e.i = (i : Nat) ∧ entL N l i = some e
  | 0, e, h => by cases h
  | k + 1, e, h => by
    have h : e ∈ vstep (entL N l k) (volK N l k) := h
    unfold vstep at h
    split at h
    · obtain ⟨i, h1, h2⟩ := volK_i k e h
      exact ⟨i, by omega, h2⟩
    · next x hx =>
      split at h
      · rcases List.mem_append.1 h with h | h
        · obtain ⟨i, h1, h2⟩ := volK_i k e h
          exact ⟨i, by omega, h2⟩
        · have : e = x := by simpa using h
          subst this
          exact ⟨k, by omega, ent_i hx, hx⟩
      · obtain ⟨i, h1, h2⟩ := volK_i k e h
        exact ⟨i, by omega, h2⟩
theorem volK_ap {N : Int} {l : List Int} : ∀ k, ∀ a e, a ∈ volK N l k → e ∈ volK N l k → a.i < e.i → apart a e = true
  | 0, a, _, h, _, _ => by cases h
  | k + 1, a, e, ha, he, hi => by
    have ha : a ∈ vstep (entL N l k) (volK N l k) := ha
    have he : e ∈ vstep (entL N l k) (volK N l k) := he
    unfold vstep at ha he
    cases hx : entL N l k with
    | none => rw [hx] at ha he; exact volK_ap k a e ha he hi
    | some x =>
      rw [hx] at ha he
      have ha : a ∈ (if (volK N l k).all (fun a => apart a x) then volK N l k ++ [x] else volK N l k) := ha
      have he : e ∈ (if (volK N l k).all (fun a => apart a x) then volK N l k ++ [x] else volK N l k) := he
      split at ha
      · next hall =>
        rw [if_pos hall] at he
        have hxi := ent_i hx
        rcases List.mem_append.1 ha with ha | ha
        · rcases List.mem_append.1 he with he | he
          · exact volK_ap k a e ha he hi
          · have : e = x := by simpa using he
            rw [this]
            exact List.all_eq_true.1 hall a ha
        · have : a = x := by simpa using ha
          subst this
          rcases List.mem_append.1 he with he | he
          · obtain ⟨i, h1, h2, -⟩ := volK_i k e he
            omega
          · have : e = a := by simpa using he
            subst this
            omega
      · next hall =>
        rw [if_neg hall] at he
        exact volK_ap k a e ha he hi
theorem fm_congr2 {α β : Type} {s t : α → Option β} : ∀ {l : List α}, (∀ i ∈ l, s i = t i) → l.filterMap s = l.filterMap t
  | [], _ => rfl
  | i :: l, h => by
    rw [List.filterMap_cons, List.filterMap_cons, h i (by simp), fm_congr2 (fun j hj => h j (by simp [hj]))]
theorem plcK {N : Int} {l : List Int} : ∀ k, (List.range k).filterMap (fun i : Nat => (volK N l k).find? (fun e => decide (e.i = (i : Int)))) = volK N l k
  | 0 => rfl
  | k + 1 => by
    have ih := plcK (N := N) (l := l) k
    have hk : (volK N l k).find? (fun e => decide (e.i = (k : Int))) = none := List.find?_eq_none.2 (fun e he hc => by
      obtain ⟨i, h1, h2, -⟩ := volK_i k e he
      have : e.i = k := by simpa using hc
      omega)
    rw [List.range_succ, List.filterMap_append]
    have hv : volK N l (k + 1) = volK N l k ∨ ∃ x, entL N l k = some x ∧ volK N l (k + 1) = volK N l k ++ [x] := by
      cases hx : entL N l k with
      | none =>
        left
        show vstep (entL N l k) (volK N l k) = _
        rw [hx]; rfl
      | some x =>
        have hs : volK N l (k + 1) = if (volK N l k).all (fun a => apart a x) then volK N l k ++ [x] else volK N l k := by
          show vstep (entL N l k) (volK N l k) = _
          rw [hx]; rfl
        by_cases hall : (volK N l k).all (fun a => apart a x) = true
        · exact Or.inr ⟨x, rfl, by rw [hs, if_pos hall]⟩
        · exact Or.inl (by rw [hs, if_neg hall])
    rcases hv with hv | ⟨x, hx, hv⟩
    · rw [hv, ih]
      simp [hk]
    · rw [hv]
      have hxi := ent_i hx
      have e1 : (List.range k).filterMap (fun i : Nat => (volK N l k ++ [x]).find? (fun e => decide (e.i = (i : Int)))) = volK N l k := by
        rw [← ih]
        apply fm_congr2
        intro i hi
        have hi := List.mem_range.1 hi
        rw [ih, List.find?_append]
        have : [x].find? (fun e => decide (e.i = (i : Int))) = none := by
          rw [List.find?_cons_of_neg (by simp; omega)]; rfl
        rw [this]
        simp
      rw [e1]
      congr 1
      have : (volK N l k ++ [x]).find? (fun e => decide (e.i = (k : Int))) = some x := by
        rw [List.find?_append, hk, Option.none_or, List.find?_cons_of_pos (by simpa using hxi)]
      simp only [List.filterMap_cons, this, List.filterMap_nil]
theorem lst_plc (N : Int) (l : List Int) : lst (plc N l) = volL N l := plcK 8
theorem plc_sp {N : Nat} {l : List Int} (hb : B8 l) (hl : l.length = N * 32) (hN : 8 ≤ N) : Sp N (plc N l) := by
  have key : ∀ i e, plc N l i = some e → e ∈ volL N l ∧ e.i = i := fun i e h => ⟨List.mem_of_find?_eq_some h, by simpa using List.find?_some h⟩
  refine ⟨fun i e hi he => ?_, fun i j e e' hij hj he he' => ?_⟩
  · obtain ⟨h1, h2⟩ := key i e he
    obtain ⟨k, hk, h3, h4⟩ := volK_i 8 e h1
    refine ⟨entL_ok hb hl (by omega) (by omega) h4, ?_, h2⟩
    unfold entL at h4
    split at h4
    · next hk =>
      injection h4 with h4
      subst h4
      unfold entOk at hk
      simp only [Bool.and_eq_true] at hk
      exact hk.2.1
    · cases h4
  · obtain ⟨h1, h2⟩ := key i e he
    obtain ⟨h3, h4⟩ := key j e' he'
    exact volK_ap 8 e e' h1 h3 (by omega)
theorem plc_ns {N : Int} {l : List Int} (h : NS N l) {i : Nat} (hi : i < 8) : plc N l i = entL N l i := by
  unfold plc
  rw [vol_ns h]
  cases he : entL N l i with
  | some e =>
    have hm : e ∈ (List.range 8).filterMap (entL N l) := List.mem_filterMap.2 ⟨i, List.mem_range.2 hi, he⟩
    cases hf : ((List.range 8).filterMap (entL N l)).find? (fun e => decide (e.i = (i : Int))) with
    | none => exact absurd (List.find?_eq_none.1 hf e hm) (by simpa using ent_i he)
    | some x =>
      have h1 := List.find?_some hf
      obtain ⟨j, hj, hx⟩ := List.mem_filterMap.1 (List.mem_of_find?_eq_some hf)
      have h2 := ent_i hx
      have h1 : x.i = i := by simpa using h1
      have : j = i := by omega
      subst this
      rw [he] at hx
      exact hx.symm
  | none =>
    refine List.find?_eq_none.2 (fun x hx hc => ?_)
    obtain ⟨j, hj, hx⟩ := List.mem_filterMap.1 hx
    have h2 := ent_i hx
    have h1 : x.i = i := by simpa using hc
    have : j = i := by omega
    subst this
    rw [he] at hx
    cases hx
theorem plc_dp {N : Nat} {l : List Int} (hb : B8 l) (hl : l.length = N * 32) (hN : 9 ≤ N ∧ N ≤ 512) (h : NS N l) : Dp N l (plc N l) :=
  ⟨⟨fun i hi => (plc_ns h hi).symm, (plc_sp hb hl (by omega)).ap⟩, hb, hl, hN⟩
/-- What a store's calls answer: its blocks and its disk's, the world, the store, the array, its sectors, the places. -/
structure StOk (SV : (Nat → Prop) → World → Nat → Nat → Nat → List Int → (Nat → Option En) → Prop) : Prop where
  keep : ∀ {S T : Nat → Prop} {w w' : World} {q p N : Nat} {l : List Int} {s : Nat → Option En}, SV S w q p N l s → Keep T w w' → (∀ k, T k → ¬ S k) → SV S w' q p N l s
  lt : ∀ {S : Nat → Prop} {w : World} {q p N : Nat} {l : List Int} {s : Nat → Option En}, SV S w q p N l s → ∀ k, S k → k < w.heap.size
  ds : ∀ {S : Nat → Prop} {w : World} {q p N : Nat} {l : List Int} {s : Nat → Option En}, SV S w q p N l s → Ds N l s
  arr : ∀ {S : Nat → Prop} {w : World} {q p N : Nat} {l : List Int} {s : Nat → Option En}, SV S w q p N l s → ∃ g cap, Arr w p g cap l ∧ S p ∧ S g
  open_no : ∀ {w : World} {p g cap N : Nat} {l : List Int}, Arr w p g cap l → l.length = N * 32 → N ≤ 8 → Calls Tryz.prog 10 #[dk p] w fun e w' => e = .returned (.tuple #[.pointer none, .int .i64 1]) ∧ Keep (fun _ => False) w w'
  open_yes : ∀ {w : World} {p g cap N : Nat} {l : List Int}, Arr w p g cap l → l.length = N * 32 → 9 ≤ N → N ≤ 512 → Calls Tryz.prog 10 #[dk p] w fun e w' => ∃ q S, e = .returned (.tuple #[Ptr q, .int .i64 0]) ∧ SV S w' q p N l (plc N l) ∧ (∀ k, S k → k = p ∨ k = g ∨ w.heap.size ≤ k) ∧ Keep (fun _ => False) w w'
  vols : ∀ {S : Nat → Prop} {w : World} {q p N : Nat} {l : List Int} {s : Nat → Option En}, SV S w q p N l s → Calls Tryz.prog 25 #[Ptr q] w fun e w' => ∃ a c n, e = .returned (.slice a n c) ∧ n = (lst s).length ∧ Vv w w' a c (lst s)
  free : ∀ {S : Nat → Prop} {w : World} {q p N : Nat} {l : List Int} {s : Nat → Option En}, SV S w q p N l s → Calls Tryz.prog 26 #[Ptr q] w fun e w' => e = .returned (.int .i64 (N - 8 - lensF (lst s))) ∧ Keep (fun _ => False) w w'
  good : ∀ (t : ByteArray), t.size ≤ 9223372036854775807 → ∀ w, Calls Tryz.prog 15 #[.string t] w fun e w' => e = .returned (.bool (goodS (bs t))) ∧ Keep (fun _ => False) w w'
  create : ∀ {S : Nat → Prop} {w : World} {q p N : Nat} {l : List Int} {s : Nat → Option En} (nm : ByteArray) (n : Int), nm.size ≤ 9223372036854775807 → I64 n → SV S w q p N l s → Calls Tryz.prog 11 #[Ptr q, .string nm, .int .i64 n] w fun e w' => ∃ S', e = .returned (.int .i64 (createS N l s nm n).e) ∧ SV S' w' q p N (createS N l s nm n).l (createS N l s nm n).s ∧ Keep S w w' ∧ ∀ k, S' k → S k ∨ w.heap.size ≤ k
  delete : ∀ {S : Nat → Prop} {w : World} {q p N : Nat} {l : List Int} {s : Nat → Option En} (nm : ByteArray), nm.size ≤ 9223372036854775807 → SV S w q p N l s → Calls Tryz.prog 13 #[Ptr q, .string nm] w fun e w' => ∃ S', e = .returned (.int .i64 (deleteS l s nm).e) ∧ SV S' w' q p N (deleteS l s nm).l (deleteS l s nm).s ∧ Keep S w w' ∧ ∀ k, S' k → S k ∨ w.heap.size ≤ k
  rename : ∀ {S : Nat → Prop} {w : World} {q p N : Nat} {l : List Int} {s : Nat → Option En} (nm nt : ByteArray), nm.size ≤ 9223372036854775807 → nt.size ≤ 9223372036854775807 → SV S w q p N l s → Calls Tryz.prog 14 #[Ptr q, .string nm, .string nt] w fun e w' => ∃ S', e = .returned (.int .i64 (renameS l s nm nt).e) ∧ SV S' w' q p N (renameS l s nm nt).l (renameS l s nm nt).s ∧ Keep S w w' ∧ ∀ k, S' k → S k ∨ w.heap.size ≤ k
  clone : ∀ {S : Nat → Prop} {w : World} {q p N : Nat} {l : List Int} {s : Nat → Option En} (nm nt : ByteArray), nm.size ≤ 9223372036854775807 → nt.size ≤ 9223372036854775807 → SV S w q p N l s → Calls Tryz.prog 28 #[Ptr q, .string nm, .string nt] w fun e w' => ∃ S', e = .returned (.int .i64 (cloneS N l s nm nt).e) ∧ SV S' w' q p N (cloneS N l s nm nt).l (cloneS N l s nm nt).s ∧ Keep S w w' ∧ ∀ k, S' k → S k ∨ w.heap.size ≤ k
  write : ∀ {S : Nat → Prop} {w : World} {q p N : Nat} {l : List Int} {s : Nat → Option En} (nm : ByteArray) (a n : Int) (d : ByteArray), nm.size ≤ 9223372036854775807 → I64 a → I64 n → d.size ≤ 9223372036854775807 → SV S w q p N l s → Calls Tryz.prog 27 #[Ptr q, .string nm, .int .i64 a, .int .i64 n, .string d] w fun e w' => ∃ S', e = .returned (.int .i64 (writeS l s nm a n d).e) ∧ SV S' w' q p N (writeS l s nm a n d).l (writeS l s nm a n d).s ∧ Keep S w w' ∧ ∀ k, S' k → S k ∨ w.heap.size ≤ k
  read : ∀ {S : Nat → Prop} {w : World} {q p N : Nat} {l : List Int} {s : Nat → Option En} (nm : ByteArray) (a n : Int), nm.size ≤ 9223372036854775807 → I64 a → I64 n → SV S w q p N l s → Calls Tryz.prog 12 #[Ptr q, .string nm, .int .i64 a, .int .i64 n] w fun e w' => e = .returned (.tuple #[.string (strOfNums (readS l s nm a n).1), .int .i64 (readS l s nm a n).2]) ∧ Keep (fun _ => False) w w'
/-- A store and its disk, all of it made since w0, apart from the blocks G. -/
def Vf (SV : (Nat → Prop) → World → Nat → Nat → Nat → List Int → (Nat → Option En) → Prop) (G : Nat → Prop) (w0 w : World) (q p N : Nat) (l : List Int) (s : Nat → Option En) : Prop :=
  ∃ S, SV S w q p N l s ∧ (∀ k, S k → w0.heap.size ≤ k ∧ ¬ G k) ∧ Keep (fun _ => False) w0 w ∧ (∀ k, G k → k < w.heap.size)
section
variable {SV : (Nat → Prop) → World → Nat → Nat → Nat → List Int → (Nat → Option En) → Prop} {G : Nat → Prop} {w0 w w' : World} {q p N : Nat} {l : List Int} {s : Nat → Option En}
/-- What the calls leave alone. -/
def Oth (G : Nat → Prop) (w0 : World) (k : Nat) : Prop := w0.heap.size ≤ k ∧ ¬ G k
theorem Vf.kp (h : Vf SV G w0 w q p N l s) : Keep (fun _ => False) w0 w := by
  obtain ⟨S, h1, h2, h3, h4⟩ := h
  exact h3
theorem Vf.more (H : StOk SV) (h : Vf SV G w0 w q p N l s) (k : Keep (fun _ => False) w w') : Vf SV G w0 w' q p N l s := by
  obtain ⟨S, h1, h2, h3, h4⟩ := h
  exact ⟨S, H.keep h1 k (fun _ e => e.elim), h2, h3.trans k, fun x hx => Nat.lt_of_lt_of_le (h4 x hx) k.size⟩
/-- What is written to blocks that the store must leave alone. -/
theorem Vf.else (H : StOk SV) (h : Vf SV G w0 w q p N l s) {T : Nat → Prop} (k : Keep T w w') (hT : ∀ x, T x → w0.heap.size ≤ x ∧ G x) : Vf SV G w0 w' q p N l s := by
  obtain ⟨S, h1, h2, h3, h4⟩ := h
  exact ⟨S, H.keep h1 k (fun x e c => (h2 x c).2 (hT x e).2), h2, h3.next k (fun x hx e => by have := hT x e; omega), fun x hx => Nat.lt_of_lt_of_le (h4 x hx) k.size⟩
theorem Vf.less {G' : Nat → Prop} (h : Vf SV G w0 w q p N l s) (hG : ∀ x, G' x → G x) : Vf SV G' w0 w q p N l s := by
  obtain ⟨S, h1, h2, h3, h4⟩ := h
  exact ⟨S, h1, fun k hk => ⟨(h2 k hk).1, fun c => (h2 k hk).2 (hG k c)⟩, h3, fun k hk => h4 k (hG k hk)⟩
/-- New blocks are left alone, too. -/
theorem Vf.hold (H : StOk SV) (h : Vf SV G w0 w q p N l s) (k : Keep (fun _ => False) w w') {G' : Nat → Prop} (hG : ∀ x, G' x → G x ∨ (w.heap.size ≤ x ∧ x < w'.heap.size)) : Vf SV G' w0 w' q p N l s := by
  obtain ⟨S, h1, h2, h3, h4⟩ := h
  refine ⟨S, H.keep h1 k (fun _ e => e.elim), fun x hx => ⟨(h2 x hx).1, fun c => ?_⟩, h3.trans k, fun x hx => ?_⟩
  · rcases hG x c with c | c
    · exact (h2 x hx).2 c
    · have := H.lt h1 x hx; omega
  · rcases hG x hx with c | c
    · exact Nat.lt_of_lt_of_le (h4 x c) k.size
    · exact c.2
theorem Vf.step {w' : World} {l' : List Int} {s' : Nat → Option En} {S S' : Nat → Prop} (h2 : ∀ k, S k → w0.heap.size ≤ k ∧ ¬ G k) (h3 : Keep (fun _ => False) w0 w) (h4 : ∀ k, G k → k < w.heap.size) (h5 : SV S' w' q p N l' s') (h6 : Keep S w w') (h7 : ∀ k, S' k → S k ∨ w.heap.size ≤ k) : Vf SV G w0 w' q p N l' s' ∧ Keep (Oth G w0) w w' := by
  refine ⟨⟨S', h5, fun x hx => ?_, h3.next h6 (fun x hx e => by have := h2 x e; omega), fun x hx => Nat.lt_of_lt_of_le (h4 x hx) h6.size⟩, h6.mono (fun x _ e => h2 x e)⟩
  rcases h7 x hx with c | c
  · exact h2 x c
  · exact ⟨by have := h3.size; omega, fun e => by have := h4 x e; omega⟩
theorem vf_create (H : StOk SV) (h : Vf SV G w0 w q p N l s) (nm : ByteArray) (n : Int) (i1 : nm.size ≤ 9223372036854775807) (i2 : I64 n) : Calls Tryz.prog 11 #[Ptr q, .string nm, .int .i64 n] w fun e w' => e = .returned (.int .i64 (createS N l s nm n).e) ∧ Vf SV G w0 w' q p N (createS N l s nm n).l (createS N l s nm n).s ∧ Keep (Oth G w0) w w' := by
  obtain ⟨S, h1, h2, h3, h4⟩ := h
  refine (H.create nm n i1 i2 h1).mono ?_
  rintro e w' ⟨S', rfl, h5, h6, h7⟩
  exact ⟨rfl, Vf.step h2 h3 h4 h5 h6 h7⟩
theorem vf_delete (H : StOk SV) (h : Vf SV G w0 w q p N l s) (nm : ByteArray) (i1 : nm.size ≤ 9223372036854775807) : Calls Tryz.prog 13 #[Ptr q, .string nm] w fun e w' => e = .returned (.int .i64 (deleteS l s nm).e) ∧ Vf SV G w0 w' q p N (deleteS l s nm).l (deleteS l s nm).s ∧ Keep (Oth G w0) w w' := by
  obtain ⟨S, h1, h2, h3, h4⟩ := h
  refine (H.delete nm i1 h1).mono ?_
  rintro e w' ⟨S', rfl, h5, h6, h7⟩
  exact ⟨rfl, Vf.step h2 h3 h4 h5 h6 h7⟩
theorem vf_rename (H : StOk SV) (h : Vf SV G w0 w q p N l s) (nm nt : ByteArray) (i1 : nm.size ≤ 9223372036854775807) (i2 : nt.size ≤ 9223372036854775807) : Calls Tryz.prog 14 #[Ptr q, .string nm, .string nt] w fun e w' => e = .returned (.int .i64 (renameS l s nm nt).e) ∧ Vf SV G w0 w' q p N (renameS l s nm nt).l (renameS l s nm nt).s ∧ Keep (Oth G w0) w w' := by
  obtain ⟨S, h1, h2, h3, h4⟩ := h
  refine (H.rename nm nt i1 i2 h1).mono ?_
  rintro e w' ⟨S', rfl, h5, h6, h7⟩
  exact ⟨rfl, Vf.step h2 h3 h4 h5 h6 h7⟩
theorem vf_clone (H : StOk SV) (h : Vf SV G w0 w q p N l s) (nm nt : ByteArray) (i1 : nm.size ≤ 9223372036854775807) (i2 : nt.size ≤ 9223372036854775807) : Calls Tryz.prog 28 #[Ptr q, .string nm, .string nt] w fun e w' => e = .returned (.int .i64 (cloneS N l s nm nt).e) ∧ Vf SV G w0 w' q p N (cloneS N l s nm nt).l (cloneS N l s nm nt).s ∧ Keep (Oth G w0) w w' := by
  obtain ⟨S, h1, h2, h3, h4⟩ := h
  refine (H.clone nm nt i1 i2 h1).mono ?_
  rintro e w' ⟨S', rfl, h5, h6, h7⟩
  exact ⟨rfl, Vf.step h2 h3 h4 h5 h6 h7⟩
theorem vf_write (H : StOk SV) (h : Vf SV G w0 w q p N l s) (nm : ByteArray) (a n : Int) (d : ByteArray) (i1 : nm.size ≤ 9223372036854775807) (i2 : I64 a) (i3 : I64 n) (i4 : d.size ≤ 9223372036854775807) : Calls Tryz.prog 27 #[Ptr q, .string nm, .int .i64 a, .int .i64 n, .string d] w fun e w' => e = .returned (.int .i64 (writeS l s nm a n d).e) ∧ Vf SV G w0 w' q p N (writeS l s nm a n d).l (writeS l s nm a n d).s ∧ Keep (Oth G w0) w w' := by
  obtain ⟨S, h1, h2, h3, h4⟩ := h
  refine (H.write nm a n d i1 i2 i3 i4 h1).mono ?_
  rintro e w' ⟨S', rfl, h5, h6, h7⟩
  exact ⟨rfl, Vf.step h2 h3 h4 h5 h6 h7⟩
theorem vf_read (H : StOk SV) (h : Vf SV G w0 w q p N l s) (nm : ByteArray) (a n : Int) (i1 : nm.size ≤ 9223372036854775807) (i2 : I64 a) (i3 : I64 n) : Calls Tryz.prog 12 #[Ptr q, .string nm, .int .i64 a, .int .i64 n] w fun e w' => e = .returned (.tuple #[.string (strOfNums (readS l s nm a n).1), .int .i64 (readS l s nm a n).2]) ∧ Vf SV G w0 w' q p N l s ∧ Keep (fun _ => False) w w' := by
  obtain ⟨S, h1, hr⟩ := id h
  exact (H.read nm a n i1 i2 i3 h1).mono (by rintro e w' ⟨rfl, k⟩; exact ⟨rfl, h.more H k, k⟩)
theorem vf_vols (H : StOk SV) (h : Vf SV G w0 w q p N l s) : Calls Tryz.prog 25 #[Ptr q] w fun e w' => ∃ a c n, e = .returned (.slice a n c) ∧ n = (lst s).length ∧ Vv w w' a c (lst s) := by
  obtain ⟨S, h1, hr⟩ := id h
  exact H.vols h1
theorem vf_free (H : StOk SV) (h : Vf SV G w0 w q p N l s) : Calls Tryz.prog 26 #[Ptr q] w fun e w' => e = .returned (.int .i64 (N - 8 - lensF (lst s))) ∧ Vf SV G w0 w' q p N l s ∧ Keep (fun _ => False) w w' := by
  obtain ⟨S, h1, hr⟩ := id h
  exact (H.free h1).mono (by rintro e w' ⟨rfl, k⟩; exact ⟨rfl, h.more H k, k⟩)
theorem vf_cont (H : StOk SV) (h : Vf SV G w0 w q p N l s) : Calls Tryz.prog 24 #[Ptr p] w fun e w' => e = .returned (.string (strOfNums l)) ∧ w' = w := by
  obtain ⟨S, h1, hr⟩ := id h
  obtain ⟨g, cap, hA, -⟩ := H.arr h1
  exact content_any hA
theorem vf_ds (H : StOk SV) (h : Vf SV G w0 w q p N l s) : Ds N l s := by
  obtain ⟨S, h1, hr⟩ := id h
  exact H.ds h1
/-- Opened anew. -/
theorem vf_again (H : StOk SV) (h : Vf SV G w0 w q p N l s) : Calls Tryz.prog 10 #[dk p] w fun e w' => ∃ q', e = .returned (.tuple #[Ptr q', .int .i64 0]) ∧ Vf SV G w0 w' q' p N l (plc N l) ∧ Keep (fun _ => False) w w' := by
  obtain ⟨S, h1, h2, h3, h4⟩ := h
  obtain ⟨g, cap, hA, hp, hg⟩ := H.arr h1
  have hd := H.ds h1
  refine (H.open_yes hA hd.len hd.N9.1 hd.N9.2).mono ?_
  rintro e w' ⟨q', S', rfl, h5, h6, h7⟩
  refine ⟨q', rfl, ⟨S', h5, fun k hk => ?_, h3.trans h7, fun k hk => Nat.lt_of_lt_of_le (h4 k hk) h7.size⟩, h7⟩
  rcases h6 k hk with rfl | rfl | c
  · exact h2 k hp
  · exact h2 k hg
  · exact ⟨by have := h3.size; omega, fun e => by have := h4 k e; omega⟩
/-- Opened on an array made since w0. -/
theorem vf_open (H : StOk SV) {g cap : Nat} (hA : Arr w p g cap l) (hp : w0.heap.size ≤ p ∧ w0.heap.size ≤ g) (k0 : Keep (fun _ => False) w0 w) (hl : l.length = N * 32) (hN : 9 ≤ N ∧ N ≤ 512) : Calls Tryz.prog 10 #[dk p] w fun e w' => ∃ q', e = .returned (.tuple #[Ptr q', .int .i64 0]) ∧ Vf SV (fun _ => False) w0 w' q' p N l (plc N l) ∧ Keep (fun _ => False) w w' := by
  refine (H.open_yes hA hl hN.1 hN.2).mono ?_
  rintro e w' ⟨q', S', rfl, h5, h6, h7⟩
  refine ⟨q', rfl, ⟨S', h5, fun k hk => ?_, k0.trans h7, fun k hk => hk.elim⟩, h7⟩
  rcases h6 k hk with rfl | rfl | c
  · exact ⟨hp.1, id⟩
  · exact ⟨hp.2, id⟩
  · exact ⟨by have := k0.size; omega, id⟩
end
end Tg
end Go.Proofs.YtjgnajopomadpaaGreat
