/-
  Rows of numbers of the law's own beside a store; one-byte texts.
-/
import Derived.Test.YtjgnajopomadpaaGreatRm
import Derived.Test.YtjgnajopomadpaaGreatRl
import Derived.Deep.AppendLies
namespace Go.Proofs.YtjgnajopomadpaaGreat
open Go.ChangeShapes Go.WideShapes Go.ChangeAt Go.RowKit
namespace Tg
open Qm Crc
theorem own_keepA {S : Nat → Prop} {B : Nat} {e : TypeId} {sz : Nat} {w w' : World} {a : Option Addr} {n cap : Nat} {xs : List Value} (h : w.ownsRow B e sz (.slice a n cap) n xs) (k : Keep S w w') (hS : ∀ g, a = some ⟨g, 0, none⟩ → ¬ S g) : w'.ownsRow B e sz (.slice a n cap) n xs := by
  refine ⟨h.1, h.2.imp id ?_⟩
  rintro ⟨g, c, cur, e1, hb, hh, r⟩
  have ea : a = some ⟨g, 0, none⟩ := by injection e1
  exact ⟨g, c, cur, e1, hb, by rw [k.block g (by by_cases hg : g < w.heap.size; exact hg; simp [Array.getElem?_eq_none (Nat.le_of_not_lt hg)] at hh) (hS g ea)]; exact hh, r⟩
def mI (xs : List Nat) : List Value := xs.map (fun i : Nat => .int .i64 (i : Int))
/-- Numbers made. -/
def Md (w0 w : World) (a : Option Addr) (n cap : Nat) (xs : List Nat) : Prop := w.ownsRow w0.heap.size 3 1 (.slice a n cap) n (mI xs)
theorem info3 : (Tryz.prog.info? 3).map (fun i => (i.zero, i.size, i.bytes)) = some (some (.int .i64 0), 1, 8) := by kernel_rfl
theorem Md.nil (w0 w : World) : Md w0 w none 0 0 [] := World.ownsRow_nil _ _ _ _
theorem Md.at {w0 w : World} {a : Option Addr} {n cap : Nat} {xs : List Nat} (h : Md w0 w a n cap xs) {k i : Nat} (hx : xs[k]? = some i) : ∃ g, a = some ⟨g, 0, none⟩ ∧ w.cell? ⟨g, k, none⟩ = some (.int .i64 (i : Int)) := by
  have hl : xs.length = n := by have := h.1; unfold mI at this; rw [List.length_map] at this; omega
  rcases h.2 with ⟨e, h0⟩ | ⟨g, c, cur, e, hb, hh, -⟩
  · have := (List.getElem?_eq_some_iff.1 hx).1; omega
  · injection e with ea _ ec
    subst ea
    subst ec
    refine ⟨g, rfl, ?_⟩
    rw [World.ownsRow.cellAt h k (by have := (List.getElem?_eq_some_iff.1 hx).1; omega)]
    unfold mI
    rw [List.getElem?_map, hx]; rfl
theorem Md.lt {w0 w : World} {a : Option Addr} {n cap : Nat} {xs : List Nat} (h : Md w0 w a n cap xs) {g : Nat} (e : a = some ⟨g, 0, none⟩) : w0.heap.size ≤ g ∧ g < w.heap.size := by
  subst e
  exact World.ownsRow.lt h g rfl
set_option maxRecDepth 100000 in
theorem Md.app {w0 w : World} {a : Option Addr} {n cap : Nat} {xs : List Nat} (h : Md w0 w a n cap xs) (k0 : w0.heap.size ≤ w.heap.size) (hn : n ≤ 1000) (i : Nat) :
    ∃ g cap' w', (Builtin.append_ #[57, 57] 57 #[.slice a n cap, .slice (some ⟨w.heap.size, 0, none⟩) 1 1]).run Tryz.prog (w.alloc (.cells #[.int .i64 (i : Int)] 3)) = .ok (.slice (some ⟨g, 0, none⟩) (n + 1) cap') w' ∧ Md w0 w' (some ⟨g, 0, none⟩) (n + 1) cap' (xs ++ [i]) ∧ Keep (fun b => a = some ⟨b, 0, none⟩) w w' ∧ (a = some ⟨g, 0, none⟩ ∨ w.heap.size ≤ g) ∧ g < w'.heap.size := by
  obtain ⟨ii, hi, hz0, hz1, hz2⟩ := info_parts info3
  have hA := (Keep.refl (fun _ => False) w).alloc (.cells #[.int .i64 (i : Int)] 3)
  have h1 := own_keepA h hA (fun _ _ e => e)
  have hs1 := hA.size
  obtain ⟨g, cap', w', hrun, hown, hgrow, hwh, hlt⟩ := run_append_lies (P := Tryz.prog) (w.alloc (.cells #[.int .i64 (i : Int)] 3)) 57 57 w0.heap.size 3 ii _ 1 8 Tryz.underlying57 hi hz0 hz1 hz2 rfl (by decide)
    (.slice a n cap) n (mI xs) h1 ⟨w.heap.size, 0, none⟩ 1 1 [.int .i64 (i : Int)] rfl (fun j u hu => new_cell w [.int .i64 (i : Int)] 3 j u hu) (by intro u hu; simp at hu; subst hu; rfl) (by decide) (by unfold maxLen; omega) (by omega) (Nat.le_trans k0 hs1) _ rfl
  have hob : ∀ k, some k = Value.ownBlock (.slice a n cap) → a = some ⟨k, 0, none⟩ := fun k e => by
    rcases h.2 with ⟨e', -⟩ | ⟨g', c, cur, e', -⟩
    · injection e' with e'; subst e'; cases e
    · injection e' with e'; subst e'; injection e with e; subst e; rfl
  refine ⟨g, cap', w', hrun, ?_, ⟨hgrow.os.trans hA.os, hgrow.tape.trans hA.tape, hgrow.output.trans hA.output, Nat.le_trans hs1 hgrow.size, fun j hj hs => by
    rw [hgrow.block j (by omega) (fun e => hs (hob j e)), hA.block j hj (fun e => e)]⟩, ?_, hlt⟩
  · unfold Md mI
    rw [List.map_append]
    exact hown
  · rcases hwh with e | e
    · exact Or.inl (hob g e.symm)
    · right
      have : (w.alloc (.cells #[.int .i64 (i : Int)] 3)).heap.size = w.heap.size + 1 := by simp
      omega
section
variable {SV : (Nat → Prop) → World → Nat → Nat → Nat → List Int → (Nat → Option En) → Prop} {G : Nat → Prop} {w0 w w' : World} {q p N : Nat} {l : List Int} {s : Nat → Option En}
theorem Vf.swap (H : StOk SV) (h : Vf SV G w0 w q p N l s) {T G' : Nat → Prop} (k : Keep T w w') (hT : ∀ x, T x → w0.heap.size ≤ x ∧ G x) (hG : ∀ x, G' x → G x ∨ (w.heap.size ≤ x ∧ x < w'.heap.size)) : Vf SV G' w0 w' q p N l s := by
  obtain ⟨S, h1, h2, h3, h4⟩ := h
  refine ⟨S, H.keep h1 k (fun x e c => (h2 x c).2 (hT x e).2), fun x hx => ⟨(h2 x hx).1, fun c => ?_⟩, h3.next k (fun x hx e => by have := hT x e; omega), fun x hx => ?_⟩
  · rcases hG x c with c | c
    · exact (h2 x hx).2 c
    · have := H.lt h1 x hx; omega
  · rcases hG x hx with c | c
    · exact Nat.lt_of_lt_of_le (h4 x c) k.size
    · exact c.2
end
/-- The block of a row. -/
def Bl (a : Option Addr) (x : Nat) : Prop := a = some ⟨x, 0, none⟩
/-- Numbers, texts as arguments. -/
def Ins (w : World) (a : Option Addr) (len cap : Nat) (f : Nat → Int) : Prop := len ≤ cap ∧ cap ≤ 9223372036854775807 ∧ (len = 0 ∨ ∃ g o, a = some ⟨g, o, none⟩ ∧ ∀ i, i < len → w.cell? ⟨g, o + i, none⟩ = some (.int .i64 (f i)))
def Txs (w : World) (a : Option Addr) (len cap : Nat) (f : Nat → ByteArray) : Prop := len ≤ cap ∧ cap ≤ 9223372036854775807 ∧ (len = 0 ∨ ∃ g o, a = some ⟨g, o, none⟩ ∧ ∀ i, i < len → w.cell? ⟨g, o + i, none⟩ = some (.string (f i)) ∧ (f i).size ≤ 9223372036854775807)
theorem and3 (v : Int) : ∃ j : Nat, j < 4 ∧ bits .and .i64 v 3 = (j : Int) := by
  refine ⟨(BitVec.ofInt 64 v &&& BitVec.ofInt 64 3).toNat, ?_, ?_⟩
  · rw [BitVec.toNat_and]
    exact Nat.and_lt_two_pow (n := 2) _ (by decide)
  · have h : (BitVec.ofInt 64 v &&& BitVec.ofInt 64 3).toNat < 4 := by
      rw [BitVec.toNat_and]
      exact Nat.and_lt_two_pow (n := 2) _ (by decide)
    show IntKind.i64.wrap ((BitVec.ofInt 64 v &&& BitVec.ofInt 64 3).toNat : Int) = _
    rw [IntKind.wrap_i64]
    omega
/-- A text of one byte. -/
theorem one_text (w : World) {v : Int} (hv : 0 ≤ v ∧ v ≤ 255) : (convert 59 9 (.slice (some ⟨w.heap.size, 0, none⟩) 1 1)).run Tryz.prog (w.alloc (.cells #[.int .u8 v] 5)) = .ok (.string (strOfNums [v])) (w.alloc (.cells #[.int .u8 v] 5)) :=
  Row.text (row_new w [v] (0, 0) w.heap.size 1 rfl (by simp) (by omega) (fun n hn => by simp at hn; omega))
theorem cat_v {i : Nat} : (⟨#[118]⟩ : ByteArray) ++ strOfNums [(48 + i : Nat)] = vn false i := by
  rw [show (⟨#[118]⟩ : ByteArray) = strOfNums [118] from rfl, str_app]
  unfold vn vnL
  simp
theorem cat_w {i : Nat} : (⟨#[119]⟩ : ByteArray) ++ vn false i = vn true i := by
  unfold vn
  rw [show (⟨#[119]⟩ : ByteArray) = strOfNums [119] from rfl, str_app]
  unfold vnL
  simp
theorem cat_wv {i : Nat} : (⟨#[119, 118]⟩ : ByteArray) ++ strOfNums [(48 + i : Nat)] = vn true i := by
  rw [show (⟨#[119, 118]⟩ : ByteArray) = strOfNums [119, 118] from rfl, str_app]
  unfold vn vnL
  simp
end Tg
end Go.Proofs.YtjgnajopomadpaaGreat
