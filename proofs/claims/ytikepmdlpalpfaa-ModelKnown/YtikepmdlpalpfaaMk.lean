/-
  What the program's calls answer (as they should), whatever an array's memory is; two arrays beside each other.
-/
import Derived.Test.YtikepmdlpalpfaaMt
namespace Go.Proofs.Ytikepmdlpalpfaa
open Go.ChangeShapes Go.WideShapes Go.ChangeAt Go.RowKit
namespace Tg
def I64 (x : Int) : Prop := -9223372036854775808 ≤ x ∧ x ≤ 9223372036854775807
abbrev Ptr (p : Nat) : Value := .pointer (some ⟨p, 0, none⟩)
/-- An array in memory: its blocks, the world, the pointer's block, its bytes. What calls of the program answer. -/
structure ArrOk (M : (Nat → Prop) → World → Nat → List Int → Prop) : Prop where
  keep : ∀ {S T : Nat → Prop} {w w' : World} {p : Nat} {l : List Int}, M S w p l → Keep T w w' → (∀ k, T k → ¬ S k) → M S w' p l
  lt : ∀ {S : Nat → Prop} {w : World} {p : Nat} {l : List Int}, M S w p l → ∀ k, S k → k < w.heap.size
  new_no : ∀ (w : World) {n : Int}, I64 n → ¬ (1 ≤ n ∧ n ≤ 512) → Calls Try.prog 7 #[.int .i64 n] w fun e w' => e = .returned (.tuple #[.pointer none, .int .i64 1]) ∧ Keep (fun _ => False) w w'
  new_yes : ∀ (w : World) {n : Nat}, 1 ≤ n → n ≤ 512 → Calls Try.prog 7 #[.int .i64 (n : Int)] w fun e w' => ∃ (p : Nat) (S : Nat → Prop), e = .returned (.tuple #[Ptr p, .int .i64 0]) ∧ M S w' p (List.replicate (n * 32) 0) ∧ (∀ k, S k → w.heap.size ≤ k) ∧ Keep (fun _ => False) w w'
  read_no : ∀ {S : Nat → Prop} {w : World} {p N : Nat} {l : List Int} {lba n : Int}, M S w p l → l.length = N * 32 → N ≤ 512 → I64 lba → I64 n → okR N lba n = false → Calls Try.prog 8 #[Ptr p, .int .i64 lba, .int .i64 n] w fun e w' => e = .returned (.tuple #[.string ⟨#[]⟩, .int .i64 1]) ∧ Keep (fun _ => False) w w'
  read_yes : ∀ {S : Nat → Prop} {w : World} {p N : Nat} {l : List Int} {lba n : Nat}, M S w p l → l.length = N * 32 → N ≤ 512 → okR N lba n = true → Calls Try.prog 8 #[Ptr p, .int .i64 (lba : Int), .int .i64 (n : Int)] w fun e w' => e = .returned (.tuple #[.string (strOfNums (rdL l lba n)), .int .i64 0]) ∧ Keep (fun _ => False) w w'
  write_no : ∀ {S : Nat → Prop} {w : World} {p N : Nat} {l : List Int} {lba n : Int} (d : ByteArray), d.size ≤ 9223372036854775807 → M S w p l → l.length = N * 32 → N ≤ 512 → I64 lba → I64 n → okR N lba n = false → Calls Try.prog 9 #[Ptr p, .int .i64 lba, .int .i64 n, .string d] w fun e w' => e = .returned (.int .i64 1) ∧ Keep (fun _ => False) w w'
  write_yes : ∀ {S : Nat → Prop} {w : World} {p N : Nat} {l : List Int} {lba n : Nat} (d : ByteArray), d.size ≤ 9223372036854775807 → M S w p l → l.length = N * 32 → N ≤ 512 → okR N lba n = true → Calls Try.prog 9 #[Ptr p, .int .i64 (lba : Int), .int .i64 (n : Int), .string d] w fun e w' => e = .returned (.int .i64 0) ∧ ∃ S' : Nat → Prop, M S' w' p (wrL l lba n (nums d)) ∧ Keep S w w' ∧ ∀ k, S' k → S k ∨ w.heap.size ≤ k
  trim_no : ∀ {S : Nat → Prop} {w : World} {p N : Nat} {l : List Int} {lba n : Int}, M S w p l → l.length = N * 32 → N ≤ 512 → I64 lba → I64 n → okR N lba n = false → Calls Try.prog 10 #[Ptr p, .int .i64 lba, .int .i64 n] w fun e w' => e = .returned (.int .i64 1) ∧ Keep (fun _ => False) w w'
  trim_yes : ∀ {S : Nat → Prop} {w : World} {p N : Nat} {l : List Int} {lba n : Nat}, M S w p l → l.length = N * 32 → N ≤ 512 → okR N lba n = true → Calls Try.prog 10 #[Ptr p, .int .i64 (lba : Int), .int .i64 (n : Int)] w fun e w' => e = .returned (.int .i64 0) ∧ ∃ S' : Nat → Prop, M S' w' p (wrL l lba n []) ∧ Keep S w w' ∧ ∀ k, S' k → S k ∨ w.heap.size ≤ k
  content : ∀ {S : Nat → Prop} {w : World} {p N : Nat} {l : List Int}, M S w p l → l.length = N * 32 → N ≤ 512 → Calls Try.prog 15 #[Ptr p] w fun e w' => e = .returned (.string (strOfNums l)) ∧ Keep (fun _ => False) w w'
  copy : ∀ {S : Nat → Prop} {w : World} {p N : Nat} {l : List Int}, M S w p l → l.length = N * 32 → N ≤ 512 → Calls Try.prog 12 #[Ptr p] w fun e w' => ∃ (q : Nat) (T : Nat → Prop), e = .returned (Ptr q) ∧ M T w' q l ∧ (∀ k, T k → w.heap.size ≤ k) ∧ Keep (fun _ => False) w w'
  differs : ∀ {S T : Nat → Prop} {w : World} {p q N R : Nat} {l m : List Int}, M S w p l → M T w q m → l.length = N * 32 → N ≤ 512 → m.length = R * 32 → R ≤ 512 → B8 l → B8 m → Calls Try.prog 16 #[Ptr p, Ptr q] w fun e w' => ∃ a c, e = .returned (.slice a (difL l m).length c) ∧ Is w' a c (difL l m) ∧ Keep (fun _ => False) w w'
/-- Two arrays made since w0, apart. -/
def Two (M : (Nat → Prop) → World → Nat → List Int → Prop) (w0 w : World) (p q : Nat) (l m : List Int) : Prop :=
  ∃ S T : Nat → Prop, M S w p l ∧ M T w q m ∧ (∀ k, S k → ¬ T k) ∧ (∀ k, S k → w0.heap.size ≤ k) ∧ (∀ k, T k → w0.heap.size ≤ k) ∧ Keep (fun _ => False) w0 w
def One (M : (Nat → Prop) → World → Nat → List Int → Prop) (w0 w : World) (p : Nat) (l : List Int) : Prop :=
  ∃ S : Nat → Prop, M S w p l ∧ (∀ k, S k → w0.heap.size ≤ k) ∧ Keep (fun _ => False) w0 w
theorem Two.symm {M : (Nat → Prop) → World → Nat → List Int → Prop} {w0 w : World} {p q : Nat} {l m : List Int} (h : Two M w0 w p q l m) : Two M w0 w q p m l := by
  obtain ⟨S, T, h1, h2, h3, h4, h5, h6⟩ := h
  exact ⟨T, S, h2, h1, fun k a b => h3 k b a, h5, h4, h6⟩
theorem Two.kp {M : (Nat → Prop) → World → Nat → List Int → Prop} {w0 w : World} {p q : Nat} {l m : List Int} (h : Two M w0 w p q l m) : Keep (fun _ => False) w0 w := by
  obtain ⟨S, T, h1, h2, h3, h4, h5, h6⟩ := h
  exact h6
theorem Two.more {M : (Nat → Prop) → World → Nat → List Int → Prop} (H : ArrOk M) {w0 w w' : World} {p q : Nat} {l m : List Int} (h : Two M w0 w p q l m) (k : Keep (fun _ => False) w w') : Two M w0 w' p q l m := by
  obtain ⟨S, T, h1, h2, h3, h4, h5, h6⟩ := h
  exact ⟨S, T, H.keep h1 k (fun _ e => e.elim), H.keep h2 k (fun _ e => e.elim), h3, h4, h5, h6.trans k⟩
theorem One.more {M : (Nat → Prop) → World → Nat → List Int → Prop} (H : ArrOk M) {w0 w w' : World} {p : Nat} {l : List Int} (h : One M w0 w p l) (k : Keep (fun _ => False) w w') : One M w0 w' p l := by
  obtain ⟨S, h1, h4, h6⟩ := h
  exact ⟨S, H.keep h1 k (fun _ e => e.elim), h4, h6.trans k⟩
theorem Two.one {M : (Nat → Prop) → World → Nat → List Int → Prop} {w0 w : World} {p q : Nat} {l m : List Int} (h : Two M w0 w p q l m) : One M w0 w p l := by
  obtain ⟨S, T, h1, h2, h3, h4, h5, h6⟩ := h
  exact ⟨S, h1, h4, h6⟩
/-- An array, and another one made behind it. -/
theorem One.two {M : (Nat → Prop) → World → Nat → List Int → Prop} (H : ArrOk M) {w0 w w' : World} {p q : Nat} {l m : List Int} {T : Nat → Prop} (h : One M w0 w p l) (hm : M T w' q m) (hT : ∀ k, T k → w.heap.size ≤ k) (k : Keep (fun _ => False) w w') : Two M w0 w' p q l m := by
  obtain ⟨S, h1, h4, h6⟩ := h
  refine ⟨S, T, H.keep h1 k (fun _ e => e.elim), hm, fun j a b => ?_, h4, fun j hj => ?_, h6.trans k⟩
  · have := H.lt h1 j a
    have := hT j b
    omega
  · have := hT j hj
    have := h6.size
    omega
theorem two_new {M : (Nat → Prop) → World → Nat → List Int → Prop} (H : ArrOk M) {w0 w : World} {p : Nat} {l : List Int} (h : One M w0 w p l) {n : Nat} (h1 : 1 ≤ n) (h2 : n ≤ 512) : Calls Try.prog 7 #[.int .i64 (n : Int)] w fun e w' => ∃ q, e = .returned (.tuple #[Ptr q, .int .i64 0]) ∧ Two M w0 w' p q l (List.replicate (n * 32) 0) :=
  (H.new_yes w h1 h2).mono (by
    rintro e w' ⟨q, T, rfl, hm, hT, k⟩
    exact ⟨q, rfl, h.two H hm hT k⟩)
theorem one_new {M : (Nat → Prop) → World → Nat → List Int → Prop} (H : ArrOk M) {w0 w : World} (h0 : Keep (fun _ => False) w0 w) {n : Nat} (h1 : 1 ≤ n) (h2 : n ≤ 512) : Calls Try.prog 7 #[.int .i64 (n : Int)] w fun e w' => ∃ q, e = .returned (.tuple #[Ptr q, .int .i64 0]) ∧ One M w0 w' q (List.replicate (n * 32) 0) :=
  (H.new_yes w h1 h2).mono (by
    rintro e w' ⟨q, T, rfl, hm, hT, k⟩
    exact ⟨q, rfl, T, hm, fun j hj => by have := hT j hj; have := h0.size; omega, h0.trans k⟩)
theorem two_copy {M : (Nat → Prop) → World → Nat → List Int → Prop} (H : ArrOk M) {w0 w : World} {p N : Nat} {l : List Int} (h : One M w0 w p l) (hl : l.length = N * 32) (hN : N ≤ 512) : Calls Try.prog 12 #[Ptr p] w fun e w' => ∃ q, e = .returned (Ptr q) ∧ Two M w0 w' p q l l := by
  obtain ⟨S, h1, h4, h6⟩ := h
  refine (H.copy h1 hl hN).mono ?_
  rintro e w' ⟨q, T, rfl, hm, hT, k⟩
  exact ⟨q, rfl, One.two H ⟨S, h1, h4, h6⟩ hm hT k⟩
theorem two_read_no {M : (Nat → Prop) → World → Nat → List Int → Prop} (H : ArrOk M) {w0 w : World} {p q N : Nat} {l m : List Int} (h : Two M w0 w p q l m) (hl : l.length = N * 32) (hN : N ≤ 512) {lba n : Int} (i1 : I64 lba) (i2 : I64 n) (hr : okR N lba n = false) : Calls Try.prog 8 #[Ptr p, .int .i64 lba, .int .i64 n] w fun e w' => e = .returned (.tuple #[.string ⟨#[]⟩, .int .i64 1]) ∧ Two M w0 w' p q l m := by
  obtain ⟨S, T, h1, hrest⟩ := id h
  exact (H.read_no h1 hl hN i1 i2 hr).mono (by rintro e w' ⟨rfl, k⟩; exact ⟨rfl, h.more H k⟩)
theorem two_read {M : (Nat → Prop) → World → Nat → List Int → Prop} (H : ArrOk M) {w0 w : World} {p q N : Nat} {l m : List Int} (h : Two M w0 w p q l m) (hl : l.length = N * 32) (hN : N ≤ 512) {lba n : Nat} (hr : okR N lba n = true) : Calls Try.prog 8 #[Ptr p, .int .i64 (lba : Int), .int .i64 (n : Int)] w fun e w' => e = .returned (.tuple #[.string (strOfNums (rdL l lba n)), .int .i64 0]) ∧ Two M w0 w' p q l m := by
  obtain ⟨S, T, h1, hrest⟩ := id h
  exact (H.read_yes h1 hl hN hr).mono (by rintro e w' ⟨rfl, k⟩; exact ⟨rfl, h.more H k⟩)
theorem two_write_no {M : (Nat → Prop) → World → Nat → List Int → Prop} (H : ArrOk M) {w0 w : World} {p q N : Nat} {l m : List Int} (h : Two M w0 w p q l m) (hl : l.length = N * 32) (hN : N ≤ 512) {lba n : Int} (i1 : I64 lba) (i2 : I64 n) (d : ByteArray) (hd : d.size ≤ 9223372036854775807) (hr : okR N lba n = false) : Calls Try.prog 9 #[Ptr p, .int .i64 lba, .int .i64 n, .string d] w fun e w' => e = .returned (.int .i64 1) ∧ Two M w0 w' p q l m := by
  obtain ⟨S, T, h1, hrest⟩ := id h
  exact (H.write_no d hd h1 hl hN i1 i2 hr).mono (by rintro e w' ⟨rfl, k⟩; exact ⟨rfl, h.more H k⟩)
theorem two_trim_no {M : (Nat → Prop) → World → Nat → List Int → Prop} (H : ArrOk M) {w0 w : World} {p q N : Nat} {l m : List Int} (h : Two M w0 w p q l m) (hl : l.length = N * 32) (hN : N ≤ 512) {lba n : Int} (i1 : I64 lba) (i2 : I64 n) (hr : okR N lba n = false) : Calls Try.prog 10 #[Ptr p, .int .i64 lba, .int .i64 n] w fun e w' => e = .returned (.int .i64 1) ∧ Two M w0 w' p q l m := by
  obtain ⟨S, T, h1, hrest⟩ := id h
  exact (H.trim_no h1 hl hN i1 i2 hr).mono (by rintro e w' ⟨rfl, k⟩; exact ⟨rfl, h.more H k⟩)
theorem two_write {M : (Nat → Prop) → World → Nat → List Int → Prop} (H : ArrOk M) {w0 w : World} {p q N : Nat} {l m : List Int} (h : Two M w0 w p q l m) (hl : l.length = N * 32) (hN : N ≤ 512) {lba n : Nat} (d : ByteArray) (hd : d.size ≤ 9223372036854775807) (hr : okR N lba n = true) : Calls Try.prog 9 #[Ptr p, .int .i64 (lba : Int), .int .i64 (n : Int), .string d] w fun e w' => e = .returned (.int .i64 0) ∧ Two M w0 w' p q (wrL l lba n (nums d)) m := by
  obtain ⟨S, T, h1, h2, h3, h4, h5, h6⟩ := h
  refine (H.write_yes d hd h1 hl hN hr).mono ?_
  rintro e w' ⟨rfl, S', g1, g2, g3⟩
  refine ⟨rfl, S', T, g1, H.keep h2 g2 h3, fun j a b => ?_, fun j hj => ?_, h5, h6.next g2 (fun x hx e => by have := h4 x e; omega)⟩
  · rcases g3 j a with a | a
    · exact h3 j a b
    · have := H.lt h2 j b; omega
  · rcases g3 j hj with a | a
    · exact h4 j a
    · have := h6.size; omega
theorem two_trim {M : (Nat → Prop) → World → Nat → List Int → Prop} (H : ArrOk M) {w0 w : World} {p q N : Nat} {l m : List Int} (h : Two M w0 w p q l m) (hl : l.length = N * 32) (hN : N ≤ 512) {lba n : Nat} (hr : okR N lba n = true) : Calls Try.prog 10 #[Ptr p, .int .i64 (lba : Int), .int .i64 (n : Int)] w fun e w' => e = .returned (.int .i64 0) ∧ Two M w0 w' p q (wrL l lba n []) m := by
  obtain ⟨S, T, h1, h2, h3, h4, h5, h6⟩ := h
  refine (H.trim_yes h1 hl hN hr).mono ?_
  rintro e w' ⟨rfl, S', g1, g2, g3⟩
  refine ⟨rfl, S', T, g1, H.keep h2 g2 h3, fun j a b => ?_, fun j hj => ?_, h5, h6.next g2 (fun x hx e => by have := h4 x e; omega)⟩
  · rcases g3 j a with a | a
    · exact h3 j a b
    · have := H.lt h2 j b; omega
  · rcases g3 j hj with a | a
    · exact h4 j a
    · have := h6.size; omega
theorem two_cont {M : (Nat → Prop) → World → Nat → List Int → Prop} (H : ArrOk M) {w0 w : World} {p q N : Nat} {l m : List Int} (h : Two M w0 w p q l m) (hl : l.length = N * 32) (hN : N ≤ 512) : Calls Try.prog 15 #[Ptr p] w fun e w' => e = .returned (.string (strOfNums l)) ∧ Two M w0 w' p q l m := by
  obtain ⟨S, T, h1, hrest⟩ := id h
  exact (H.content h1 hl hN).mono (by rintro e w' ⟨rfl, k⟩; exact ⟨rfl, h.more H k⟩)
theorem two_dif {M : (Nat → Prop) → World → Nat → List Int → Prop} (H : ArrOk M) {w0 w : World} {p q N R : Nat} {l m : List Int} (h : Two M w0 w p q l m) (hl : l.length = N * 32) (hN : N ≤ 512) (hm : m.length = R * 32) (hR : R ≤ 512) (b1 : B8 l) (b2 : B8 m) : Calls Try.prog 16 #[Ptr p, Ptr q] w fun e w' => ∃ a c, e = .returned (.slice a (difL l m).length c) ∧ Is w' a c (difL l m) ∧ Two M w0 w' p q l m := by
  obtain ⟨S, T, h1, h2, hrest⟩ := id h
  exact (H.differs h1 h2 hl hN hm hR b1 b2).mono (by rintro e w' ⟨a, c, rfl, hi, k⟩; exact ⟨a, c, rfl, hi, h.more H k⟩)
theorem two_self {M : (Nat → Prop) → World → Nat → List Int → Prop} (H : ArrOk M) {w0 w : World} {p q N : Nat} {l m : List Int} (h : Two M w0 w p q l m) (hl : l.length = N * 32) (hN : N ≤ 512) (b1 : B8 l) : Calls Try.prog 16 #[Ptr p, Ptr p] w fun e w' => ∃ a c, e = .returned (.slice a 0 c) ∧ Two M w0 w' p q l m := by
  obtain ⟨S, T, h1, h2, hrest⟩ := id h
  exact (H.differs h1 h1 hl hN hl hN b1 b1).mono (by
    rintro e w' ⟨a, c, rfl, hi, k⟩
    rw [difL_same]
    exact ⟨a, c, rfl, h.more H k⟩)
theorem b8_zero (n : Nat) : B8 (List.replicate n 0) := fun x hx => by have := List.eq_of_mem_replicate hx; omega
end Tg
end Go.Proofs.Ytikepmdlpalpfaa
