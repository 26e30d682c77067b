/-
  Texts as lists of bytes; the document's own digits over any memory.
-/
import Derived.Test.YtgilagmgepogbaaDoorRCut
import Derived.BigQuiet
namespace Go.Proofs.YtgilagmgepogbaaDoor
open Go.ChangeShapes Go.WideShapes Go.ChangeAt Go.RowKit
namespace Tg
open Qm

/-- A text of bytes. -/
def str (l : List Nat) : ByteArray := ⟨(l.map UInt8.ofNat).toArray⟩
theorem str_append (l m : List Nat) : str l ++ str m = str (l ++ m) := by
  apply ByteArray.ext
  simp [str, ByteArray.data_append]
theorem str_size (l : List Nat) : (str l).size = l.length := by
  show ((l.map UInt8.ofNat).toArray).size = _
  simp
theorem bs_str {l : List Nat} (h : ∀ x ∈ l, x < 256) : bs (str l) = l := by
  unfold bs str
  simp only [List.map_map]
  conv => rhs; rw [← List.map_id l]
  apply List.map_congr_left
  intro x hx
  have := h x hx
  simp
  omega
theorem str_bs (s : ByteArray) : str (bs s) = s := by
  apply ByteArray.ext
  apply Array.ext'
  unfold str bs
  simp only [List.map_map]
  conv => rhs; rw [← List.map_id s.data.toList]
  apply List.map_congr_left
  intro x hx
  simp

/-- n digits of a number. -/
def hexs (v : Nat) : Nat → List Nat
  | 0 => []
  | n + 1 => hexs (v / 16) n ++ [hexd (v % 16)]
theorem hexs_len (v n : Nat) : (hexs v n).length = n := by
  induction n generalizing v with
  | zero => rfl
  | succ n ih => simp [hexs, ih]
theorem hexs2 (v : Nat) : hexs v 2 = hex2 v := by simp [hexs, hex2]
theorem hexs4 (v : Nat) : hexs v 4 = hex4 v := by
  simp only [hexs, hex4, List.nil_append, List.cons_append]
  rw [show v / 16 / 16 / 16 = v / 4096 by omega, show v / 16 / 16 = v / 256 by omega]
theorem digit_text : ∀ i, i < 16 → (ByteArray.mk #[48, 49, 50, 51, 52, 53, 54, 55, 56, 57, 97, 98, 99, 100, 101, 102]).extract i (i + 1) = str [hexd i] := by decide

end Tg
end Go.Proofs.YtgilagmgepogbaaDoor
