/-
  Two arrays beside a variable that holds a call.
-/
import Derived.Test.YtikepmdlpalpfaaMa
namespace Go.Proofs.Ytikepmdlpalpfaa
open Go.ChangeShapes Go.WideShapes Go.ChangeAt Go.RowKit
namespace Tg
/-- Two arrays made since w0, apart from each other and from block g, which holds four cells. -/
def Twg (M : (Nat → Prop) → World → Nat → List Int → Prop) (w0 w : World) (g : Nat) (f : Nat → Value) (p q : Nat) (l m : List Int) : Prop :=
  ∃ S T : Nat → Prop, M S w p l ∧ M T w q m ∧ (∀ k, S k → ¬ T k) ∧ (∀ k, S k → w0.heap.size ≤ k) ∧ (∀ k, T k → w0.heap.size ≤ k) ∧ Keep (fun _ => False) w0 w ∧ Blk w g 4 f ∧ ¬ S g ∧ ¬ T g
theorem Two.hold {M : (Nat → Prop) → World → Nat → List Int → Prop} (H : ArrOk M) {w0 w : World} {p q : Nat} {l m : List Int} (h : Two M w0 w p q l m) (o : Obj) {f : Nat → Value} (hb : Blk (w.alloc o) w.heap.size 4 f) : Twg M w0 (w.alloc o) w.heap.size f p q l m := by
  obtain ⟨S, T, h1, h2, h3, h4, h5, h6⟩ := h
  have k := (Keep.refl (fun _ => False) w).alloc o
  exact ⟨S, T, H.keep h1 k (fun _ e => e.elim), H.keep h2 k (fun _ e => e.elim), h3, h4, h5, h6.trans k, hb, fun e => by have := H.lt h1 _ e; omega, fun e => by have := H.lt h2 _ e; omega⟩
theorem Twg.two {M : (Nat → Prop) → World → Nat → List Int → Prop} {w0 w : World} {g : Nat} {f : Nat → Value} {p q : Nat} {l m : List Int} (h : Twg M w0 w g f p q l m) : Two M w0 w p q l m := by
  obtain ⟨S, T, h1, h2, h3, h4, h5, h6, -⟩ := h
  exact ⟨S, T, h1, h2, h3, h4, h5, h6⟩
theorem Twg.blk {M : (Nat → Prop) → World → Nat → List Int → Prop} {w0 w : World} {g : Nat} {f : Nat → Value} {p q : Nat} {l m : List Int} (h : Twg M w0 w g f p q l m) : Blk w g 4 f := by
  obtain ⟨S, T, h1, h2, h3, h4, h5, h6, h7, -⟩ := h
  exact h7
theorem Twg.more {M : (Nat → Prop) → World → Nat → List Int → Prop} (H : ArrOk M) {w0 w w' : World} {g : Nat} {f : Nat → Value} {p q : Nat} {l m : List Int} (h : Twg M w0 w g f p q l m) (k : Keep (fun _ => False) w w') : Twg M w0 w' g f p q l m := by
  obtain ⟨S, T, h1, h2, h3, h4, h5, h6, h7, h8, h9⟩ := h
  exact ⟨S, T, H.keep h1 k (fun _ e => e.elim), H.keep h2 k (fun _ e => e.elim), h3, h4, h5, h6.trans k, h7.keep k (fun e => e), h8, h9⟩
theorem Twg.symm {M : (Nat → Prop) → World → Nat → List Int → Prop} {w0 w : World} {g : Nat} {f : Nat → Value} {p q : Nat} {l m : List Int} (h : Twg M w0 w g f p q l m) : Twg M w0 w g f q p m l := by
  obtain ⟨S, T, h1, h2, h3, h4, h5, h6, h7, h8, h9⟩ := h
  exact ⟨T, S, h2, h1, fun k a b => h3 k b a, h5, h4, h6, h7, h9, h8⟩
/-- The first one is changed. -/
theorem Twg.put {M : (Nat → Prop) → World → Nat → List Int → Prop} (H : ArrOk M) {w0 w w' : World} {g : Nat} {f : Nat → Value} {p q : Nat} {l' m : List Int} {S T S' : Nat → Prop} (h2 : M T w q m) (h3 : ∀ k, S k → ¬ T k) (h4 : ∀ k, S k → w0.heap.size ≤ k) (h5 : ∀ k, T k → w0.heap.size ≤ k) (h6 : Keep (fun _ => False) w0 w) (h7 : Blk w g 4 f) (h8 : ¬ S g) (h9 : ¬ T g) (g1 : M S' w' p l') (g2 : Keep S w w') (g3 : ∀ k, S' k → S k ∨ w.heap.size ≤ k) : Twg M w0 w' g f p q l' m := by
  have hg := h7.lt (by omega)
  refine ⟨S', T, g1, H.keep h2 g2 h3, fun j a b => ?_, fun j hj => ?_, h5, h6.next g2 (fun x hx e => by have := h4 x e; omega), h7.keep g2 h8, fun e => ?_, h9⟩
  · rcases g3 j a with a | a
    · exact h3 j a b
    · have := H.lt h2 j b; omega
  · rcases g3 j hj with a | a
    · exact h4 j a
    · have := h6.size; omega
  · rcases g3 g e with a | a
    · exact h8 a
    · omega
theorem twg_write {M : (Nat → Prop) → World → Nat → List Int → Prop} (H : ArrOk M) {w0 w : World} {g : Nat} {f : Nat → Value} {p q N : Nat} {l m : List Int} (h : Twg M w0 w g f p q l m) (hl : l.length = N * 32) (hN : N ≤ 512) {lba n : Nat} (d : ByteArray) (hd : d.size ≤ 9223372036854775807) (hr : okR N lba n = true) : Calls Try.prog 9 #[Ptr p, .int .i64 (lba : Int), .int .i64 (n : Int), .string d] w fun e w' => e = .returned (.int .i64 0) ∧ Twg M w0 w' g f p q (wrL l lba n (nums d)) m := by
  obtain ⟨S, T, h1, h2, h3, h4, h5, h6, h7, h8, h9⟩ := h
  refine (H.write_yes d hd h1 hl hN hr).mono ?_
  rintro e w' ⟨rfl, S', g1, g2, g3⟩
  exact ⟨rfl, Twg.put H h2 h3 h4 h5 h6 h7 h8 h9 g1 g2 g3⟩
theorem twg_trim {M : (Nat → Prop) → World → Nat → List Int → Prop} (H : ArrOk M) {w0 w : World} {g : Nat} {f : Nat → Value} {p q N : Nat} {l m : List Int} (h : Twg M w0 w g f p q l m) (hl : l.length = N * 32) (hN : N ≤ 512) {lba n : Nat} (hr : okR N lba n = true) : Calls Try.prog 10 #[Ptr p, .int .i64 (lba : Int), .int .i64 (n : Int)] w fun e w' => e = .returned (.int .i64 0) ∧ Twg M w0 w' g f p q (wrL l lba n []) m := by
  obtain ⟨S, T, h1, h2, h3, h4, h5, h6, h7, h8, h9⟩ := h
  refine (H.trim_yes h1 hl hN hr).mono ?_
  rintro e w' ⟨rfl, S', g1, g2, g3⟩
  exact ⟨rfl, Twg.put H h2 h3 h4 h5 h6 h7 h8 h9 g1 g2 g3⟩
theorem twg_write_no {M : (Nat → Prop) → World → Nat → List Int → Prop} (H : ArrOk M) {w0 w : World} {g : Nat} {f : Nat → Value} {p q N : Nat} {l m : List Int} (h : Twg M w0 w g f p q l m) (hl : l.length = N * 32) (hN : N ≤ 512) {lba n : Int} (i1 : I64 lba) (i2 : I64 n) (d : ByteArray) (hd : d.size ≤ 9223372036854775807) (hr : okR N lba n = false) : Calls Try.prog 9 #[Ptr p, .int .i64 lba, .int .i64 n, .string d] w fun e w' => e = .returned (.int .i64 1) ∧ Twg M w0 w' g f p q l m := by
  obtain ⟨S, T, h1, hrest⟩ := id h
  exact (H.write_no d hd h1 hl hN i1 i2 hr).mono (by rintro e w' ⟨rfl, k⟩; exact ⟨rfl, h.more H k⟩)
theorem twg_trim_no {M : (Nat → Prop) → World → Nat → List Int → Prop} (H : ArrOk M) {w0 w : World} {g : Nat} {f : Nat → Value} {p q N : Nat} {l m : List Int} (h : Twg M w0 w g f p q l m) (hl : l.length = N * 32) (hN : N ≤ 512) {lba n : Int} (i1 : I64 lba) (i2 : I64 n) (hr : okR N lba n = false) : Calls Try.prog 10 #[Ptr p, .int .i64 lba, .int .i64 n] w fun e w' => e = .returned (.int .i64 1) ∧ Twg M w0 w' g f p q l m := by
  obtain ⟨S, T, h1, hrest⟩ := id h
  exact (H.trim_no h1 hl hN i1 i2 hr).mono (by rintro e w' ⟨rfl, k⟩; exact ⟨rfl, h.more H k⟩)
theorem twg_read_no {M : (Nat → Prop) → World → Nat → List Int → Prop} (H : ArrOk M) {w0 w : World} {g : Nat} {f : Nat → Value} {p q N : Nat} {l m : List Int} (h : Twg M w0 w g f p q l m) (hl : l.length = N * 32) (hN : N ≤ 512) {lba n : Int} (i1 : I64 lba) (i2 : I64 n) (hr : okR N lba n = false) : Calls Try.prog 8 #[Ptr p, .int .i64 lba, .int .i64 n] w fun e w' => e = .returned (.tuple #[.string ⟨#[]⟩, .int .i64 1]) ∧ Twg M w0 w' g f p q l m := by
  obtain ⟨S, T, h1, hrest⟩ := id h
  exact (H.read_no h1 hl hN i1 i2 hr).mono (by rintro e w' ⟨rfl, k⟩; exact ⟨rfl, h.more H k⟩)
theorem twg_read {M : (Nat → Prop) → World → Nat → List Int → Prop} (H : ArrOk M) {w0 w : World} {g : Nat} {f : Nat → Value} {p q N : Nat} {l m : List Int} (h : Twg M w0 w g f p q l m) (hl : l.length = N * 32) (hN : N ≤ 512) {lba n : Nat} (hr : okR N lba n = true) : Calls Try.prog 8 #[Ptr p, .int .i64 (lba : Int), .int .i64 (n : Int)] w fun e w' => e = .returned (.tuple #[.string (strOfNums (rdL l lba n)), .int .i64 0]) ∧ Twg M w0 w' g f p q l m := by
  obtain ⟨S, T, h1, hrest⟩ := id h
  exact (H.read_yes h1 hl hN hr).mono (by rintro e w' ⟨rfl, k⟩; exact ⟨rfl, h.more H k⟩)
theorem twg_cont {M : (Nat → Prop) → World → Nat → List Int → Prop} (H : ArrOk M) {w0 w : World} {g : Nat} {f : Nat → Value} {p q N : Nat} {l m : List Int} (h : Twg M w0 w g f p q l m) (hl : l.length = N * 32) (hN : N ≤ 512) : Calls Try.prog 15 #[Ptr p] w fun e w' => e = .returned (.string (strOfNums l)) ∧ Twg M w0 w' g f p q l m := by
  obtain ⟨S, T, h1, hrest⟩ := id h
  exact (H.content h1 hl hN).mono (by rintro e w' ⟨rfl, k⟩; exact ⟨rfl, h.more H k⟩)
theorem twg_copy {M : (Nat → Prop) → World → Nat → List Int → Prop} (H : ArrOk M) {w0 w : World} {g : Nat} {f : Nat → Value} {p q N : Nat} {l m : List Int} (h : Twg M w0 w g f p q l m) (hl : l.length = N * 32) (hN : N ≤ 512) : Calls Try.prog 12 #[Ptr p] w fun e w' => ∃ q', e = .returned (Ptr q') ∧ Twg M w0 w' g f p q' l l := by
  obtain ⟨S, T, h1, h2, h3, h4, h5, h6, h7, h8, h9⟩ := h
  refine (H.copy h1 hl hN).mono ?_
  rintro e w' ⟨q', T', rfl, hm, hT, k⟩
  have hg := h7.lt (by omega)
  refine ⟨q', rfl, S, T', H.keep h1 k (fun _ e => e.elim), hm, fun j a b => ?_, h4, fun j hj => ?_, h6.trans k, h7.keep k (fun e => e), h8, fun e => ?_⟩
  · have := H.lt h1 j a
    have := hT j b
    omega
  · have := hT j hj
    have := h6.size
    omega
  · have := hT g e
    omega
end Tg
end Go.Proofs.Ytikepmdlpalpfaa
