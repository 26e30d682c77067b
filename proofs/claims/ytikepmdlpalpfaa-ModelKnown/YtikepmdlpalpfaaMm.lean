/-
  An array of sectors as mathematics: a range read, a range written, where two differ; texts of bytes.
-/
import Derived.Test.YtikepmdlpalpfaaMb
namespace Go.Proofs.Ytikepmdlpalpfaa
namespace Tg
def B8 (l : List Int) : Prop := ∀ x ∈ l, 0 ≤ x ∧ x ≤ 255
/-- A range's bytes. -/
def rdL (l : List Int) (a n : Nat) : List Int := (l.take ((a + n) * 32)).drop (a * 32)
/-- So many bytes, the first of them given, noughts behind. -/
def padL (m : Nat) (d : List Int) : List Int := d.take m ++ List.replicate (m - d.length) 0
/-- A range written. -/
def wrL (l : List Int) (a n : Nat) (d : List Int) : List Int := l.take (a * 32) ++ (padL (n * 32) d ++ l.drop ((a + n) * 32))
theorem padL_len (m : Nat) (d : List Int) : (padL m d).length = m := by
  unfold padL
  rw [List.length_append, List.length_take, List.length_replicate]
  omega
theorem padL_b8 {m : Nat} {d : List Int} (h : B8 d) : B8 (padL m d) := by
  intro x hx
  unfold padL at hx
  rcases List.mem_append.1 hx with hx | hx
  · exact h x (List.mem_of_mem_take hx)
  · have := List.eq_of_mem_replicate hx; omega
theorem rdL_len {l : List Int} {a n : Nat} (h : (a + n) * 32 ≤ l.length) : (rdL l a n).length = n * 32 := by
  unfold rdL
  rw [List.length_drop, List.length_take]
  omega
theorem rdL_b8 {l : List Int} {a n : Nat} (h : B8 l) : B8 (rdL l a n) := fun x hx => h x (List.mem_of_mem_take (List.mem_of_mem_drop hx))
theorem wrL_len {l : List Int} {a n : Nat} {d : List Int} (h : (a + n) * 32 ≤ l.length) : (wrL l a n d).length = l.length := by
  unfold wrL
  rw [List.length_append, List.length_append, padL_len, List.length_take, List.length_drop]
  omega
theorem wrL_b8 {l : List Int} {a n : Nat} {d : List Int} (h : B8 l) (hd : B8 d) : B8 (wrL l a n d) := by
  intro x hx
  unfold wrL at hx
  rcases List.mem_append.1 hx with hx | hx
  · exact h x (List.mem_of_mem_take hx)
  rcases List.mem_append.1 hx with hx | hx
  · exact padL_b8 hd x hx
  · exact h x (List.mem_of_mem_drop hx)
theorem wrL_at {l : List Int} {a n : Nat} {d : List Int} (h : (a + n) * 32 ≤ l.length) (i : Nat) : (wrL l a n d)[i]? = if i < a * 32 then l[i]? else if i < (a + n) * 32 then (padL (n * 32) d)[i - a * 32]? else l[i]? := by
  have hl : (l.take (a * 32)).length = a * 32 := by rw [List.length_take]; omega
  unfold wrL
  by_cases c1 : i < a * 32
  · rw [if_pos c1, List.getElem?_append_left (by rw [hl]; exact c1), List.getElem?_take_of_lt c1]
  · rw [if_neg c1, List.getElem?_append_right (by omega), hl]
    by_cases c2 : i < (a + n) * 32
    · rw [if_pos c2, List.getElem?_append_left (by rw [padL_len]; omega)]
    · rw [if_neg c2, List.getElem?_append_right (by rw [padL_len]; omega), padL_len, List.getElem?_drop]
      congr 1
      omega
/-- Ranges apart: in either order. -/
theorem wrL_comm {l : List Int} {a n b m : Nat} {d e : List Int} (h1 : (a + n) * 32 ≤ l.length) (h2 : (b + m) * 32 ≤ l.length) (h : a + n ≤ b ∨ b + m ≤ a) : wrL (wrL l a n d) b m e = wrL (wrL l b m e) a n d := by
  refine List.ext_getElem? (fun i => ?_)
  have e1 := wrL_at (l := wrL l a n d) (a := b) (n := m) (d := e) (by rw [wrL_len h1]; exact h2) i
  have e2 := wrL_at (l := wrL l b m e) (a := a) (n := n) (d := d) (by rw [wrL_len h2]; exact h1) i
  rw [e1, e2, wrL_at h1, wrL_at h2]
  clear e1 e2
  by_cases c1 : i < a * 32 <;> by_cases c2 : i < (a + n) * 32 <;> by_cases c3 : i < b * 32 <;> by_cases c4 : i < (b + m) * 32 <;> simp only [c1, c2, c3, c4, if_true, if_false] <;> omega
theorem rd_wr {l : List Int} {a n : Nat} {d : List Int} (h : (a + n) * 32 ≤ l.length) : rdL (wrL l a n d) a n = padL (n * 32) d := by
  have hl : (l.take (a * 32)).length = a * 32 := by rw [List.length_take]; omega
  unfold rdL wrL
  rw [← List.append_assoc, List.take_append_of_le_length (by rw [List.length_append, hl, padL_len]; omega), List.take_of_length_le (by rw [List.length_append, hl, padL_len]; omega)]
  generalize l.take (a * 32) = x at hl ⊢
  rw [← hl, List.drop_left]
theorem padL_take {m : Nat} {d : List Int} {k : Nat} (h1 : k ≤ m) (h2 : k ≤ d.length) : (padL m d).take k = d.take k := by
  unfold padL
  rw [List.take_append_of_le_length (by rw [List.length_take]; omega), List.take_take, Nat.min_eq_left h1]
theorem padL_nil (m : Nat) : padL m [] = List.replicate m 0 := by simp [padL]
/-- Where two differ, among the first k sectors. -/
def difK (a b : List Int) : Nat → List Int
  | 0 => []
  | k + 1 => difK a b k ++ (if (k + 1) * 32 ≤ a.length ∧ (k + 1) * 32 ≤ b.length ∧ rdL a k 1 = rdL b k 1 then [] else [(k : Int)])
def difL (a b : List Int) : List Int := difK a b (max (a.length / 32) (b.length / 32))
theorem difK_len (a b : List Int) : ∀ k, (difK a b k).length ≤ k
  | 0 => Nat.le_refl _
  | k + 1 => by
    have := difK_len a b k
    rw [difK, List.length_append]
    split <;> simp <;> omega
theorem difK_same (a : List Int) : ∀ k, k * 32 ≤ a.length → difK a a k = []
  | 0, _ => rfl
  | k + 1, h => by rw [difK, difK_same a k (by omega), if_pos ⟨h, h, rfl⟩]; rfl
theorem difL_same (a : List Int) : difL a a = [] := difK_same a _ (by omega)
/-- A text's bytes. -/
def nums (s : ByteArray) : List Int := s.data.toList.map fun b => (b.toNat : Int)
theorem nums_b8 (s : ByteArray) : B8 (nums s) := by
  intro x hx
  obtain ⟨b, -, rfl⟩ := List.mem_map.1 hx
  have := b.toNat_lt
  constructor <;> omega
theorem nums_len (s : ByteArray) : (nums s).length = s.size := by unfold nums; rw [List.length_map]; rfl
theorem str_nums (s : ByteArray) : strOfNums (nums s) = s := by
  obtain ⟨d⟩ := s
  unfold strOfNums nums
  congr 1
  rw [List.map_map]
  have : (d.toList.map ((fun n : Int => UInt8.ofNat n.toNat) ∘ fun b : UInt8 => (b.toNat : Int))) = d.toList := by
    conv => rhs; rw [← List.map_id d.toList]
    refine List.map_congr_left (fun b _ => ?_)
    simp
  rw [this]
theorem str_app (l m : List Int) : strOfNums l ++ strOfNums m = strOfNums (l ++ m) := by
  apply ByteArray.ext
  simp [strOfNums]
theorem str_extract (l : List Int) (a b : Nat) : (strOfNums l).extract a b = strOfNums ((l.take b).drop a) := by
  apply ByteArray.ext
  simp [strOfNums, List.map_drop, List.map_take]
  rw [List.drop_take]
theorem str_inj {l m : List Int} (hl : B8 l) (hm : B8 m) (h : strOfNums l = strOfNums m) : l = m := by
  have h1 := congrArg nums h
  have key : ∀ {l : List Int}, B8 l → nums (strOfNums l) = l := by
    intro l hl
    unfold nums
    rw [strOfNums_data, List.map_map]
    conv => rhs; rw [← List.map_id l]
    refine List.map_congr_left (fun x hx => ?_)
    have := hl x hx
    simp
    omega
  rwa [key hl, key hm] at h1
end Tg
end Go.Proofs.Ytikepmdlpalpfaa
