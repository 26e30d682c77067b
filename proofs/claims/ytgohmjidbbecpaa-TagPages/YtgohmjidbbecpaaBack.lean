/-
  A page's bytes and the page: each tells the other; no condition but that the numbers fit.
-/
import Derived.Test.YtgohmjidbbecpaaDecYes
namespace Go.Proofs.Ytgohmjidbbecpaa
open Go.ChangeShapes Go.WideShapes Go.ChangeAt Go.RowKit
namespace Tg
open Crc

theorem pageA_congr {k : Int} {v v' d d' : Nat → Int} (hv : ∀ j, j < 6 → v j = v' j) (hd : ∀ i, i < 32 → d i = d' i) : pageA k v d = pageA k v' d' := by
  unfold pageA
  congr 1
  apply List.map_congr_left
  intro i hi
  simp only [List.mem_range] at hi
  unfold pcell
  by_cases e0 : i = 0
  · rw [if_pos e0, if_pos e0]
  · rw [if_neg e0, if_neg e0]
    by_cases e7 : i < 7
    · rw [if_pos e7, if_pos e7, hv _ (by omega)]
    · rw [if_neg e7, if_neg e7, hd _ (by omega)]
theorem pageA_inj {k k' : Int} {v v' d d' : Nat → Int} (h : pageA k v d = pageA k' v' d') : k = k' ∧ (∀ j, j < 6 → v j = v' j) ∧ (∀ i, i < 32 → d i = d' i) := by
  have key : ∀ i, i < 39 → pcell k v d i = pcell k' v' d' i := fun i hi => by
    have h1 := pageA_get k v d i hi
    rw [h, pageA_get k' v' d' i hi] at h1
    exact (Option.some.inj h1).symm
  refine ⟨?_, fun j hj => ?_, fun i hi => ?_⟩
  · have := key 0 (by omega)
    simpa [pcell] using this
  · have := key (j + 1) (by omega)
    unfold pcell at this
    rw [if_neg (by omega), if_pos (by omega), if_neg (by omega), if_pos (by omega), Nat.add_sub_cancel] at this
    simpa using this
  · have := key (i + 7) (by omega)
    unfold pcell at this
    rw [if_neg (by omega), if_neg (by omega), if_neg (by omega), if_neg (by omega), Nat.add_sub_cancel] at this
    simpa using this

theorem ebyte_lo (k : Int) (v d : Nat → Int) {i : Nat} (h : i < 60) : ebyte k v d i = plain k v d i := by unfold ebyte; rw [if_pos h]
theorem ebyte_num (k : Int) (v d : Nat → Int) {j i : Nat} (hj : j < 6) (hi : i < 4) : ebyte k v d (4 + 4 * j + i) = le (v j) i := by
  rw [ebyte_lo _ _ _ (by omega)]
  unfold plain part
  rw [if_pos (by omega), if_neg (by omega), if_neg (by omega), if_pos (by omega), show (4 + 4 * j + i - 4) / 4 = j by omega, show (4 + 4 * j + i - 4) % 4 = i by omega]
theorem ebyte_pay (k : Int) (v d : Nat → Int) {i : Nat} (hi : i < 32) : ebyte k v d (28 + i) = d i := by
  rw [ebyte_lo _ _ _ (by omega)]
  unfold plain
  rw [if_neg (by omega), if_pos (by omega), show 28 + i - 28 = i by omega]
theorem ebyte_sum (k : Int) (v d : Nat → Int) {i : Nat} (hi : i < 4) : ebyte k v d (60 + i) = le (psum k v d) i := by
  unfold ebyte
  rw [if_neg (by omega), if_pos (by omega), show 60 + i - 60 = i by omega]
theorem ebyte_0 (k : Int) (v d : Nat → Int) : ebyte k v d 0 = k := by rfl
theorem ebyte_z (k : Int) (v d : Nat → Int) {i : Nat} (h0 : 0 < i) (hi : i < 4) : ebyte k v d i = 0 := by
  rw [ebyte_lo _ _ _ (by omega)]
  unfold plain part
  rw [if_pos (by omega), if_neg (by omega), if_pos hi]
theorem ebyte_mark (k : Int) (v d : Nat → Int) : ebyte k v d 64 = 68 ∧ ebyte k v d 65 = 79 ∧ ebyte k v d 66 = 78 ∧ ebyte k v d 67 = 69 := ⟨rfl, rfl, rfl, rfl⟩
theorem tab60 (k : Int) (v d : Nat → Int) : tab 60 (ebyte k v d) = tab 60 (plain k v d) := tab_congr (fun _ hi => ebyte_lo k v d hi)
theorem psum_bd (k : Int) (v d : Nat → Int) : 0 ≤ psum k v d ∧ psum k v d ≤ 4294967295 := val_bd _

theorem tab_mem {n i : Nat} {c : Nat → Int} (h : i < n) : c i ∈ tab n c := by simp [tab]; exact ⟨i, h, rfl⟩
theorem not_clean {c : Nat → Int} {i : Nat} (hi : i < 68) (h : c i ≠ 255) : cleanB (tab 68 c) = false := by
  unfold cleanB
  rw [decide_eq_false]
  rintro ⟨_, hx⟩
  exact h (hx _ (tab_mem hi))

/-- The bytes of a page are a page's. -/
theorem dcode_enc (k : Int) (v d : Nat → Int) (hk : 1 ≤ k ∧ k ≤ 3) : dcode 68 (ebyte k v d) = 0 := by
  have hm := ebyte_mark k v d
  have hc : cleanB (tab 68 (ebyte k v d)) = false := not_clean (i := 64) (by omega) (by rw [hm.1]; decide)
  have hs : num (fun i => ebyte k v d (60 + i)) 4 = val (more 0#32 (tab 60 (ebyte k v d))) := by
    rw [num_congr (fun i hi => ebyte_sum k v d hi), num_le (psum_bd k v d), tab60]; rfl
  unfold dcode
  rw [if_neg (fun h => h rfl), if_neg (by rw [hc]; decide), if_neg (not_not_intro hm), if_neg (not_not_intro hs), if_neg (not_not_intro ⟨by rw [ebyte_0]; exact hk.1, by rw [ebyte_0]; exact hk.2, ebyte_z _ _ _ (by omega) (by omega), ebyte_z _ _ _ (by omega) (by omega), ebyte_z _ _ _ (by omega) (by omega)⟩)]

/-- And that page. -/
theorem page_back (k : Int) (v d : Nat → Int) (hv : ∀ j, j < 6 → 0 ≤ v j ∧ v j ≤ 4294967295) :
    pageA (ebyte k v d 0) (fun j => num (fun i => ebyte k v d (4 + 4 * j + i)) 4) (fun i => ebyte k v d (28 + i)) = pageA k v d := by
  rw [ebyte_0]
  refine pageA_congr (fun j hj => ?_) (fun i hi => ebyte_pay k v d hi)
  show num (fun i => ebyte k v d (4 + 4 * j + i)) 4 = v j
  rw [num_congr (fun i hi => ebyte_num k v d hj hi), num_le (hv j hj)]

/-- Bytes that are a page's are those of the page that they tell. -/
theorem bytes_back {c : Nat → Int} (hb : ∀ i, i < 68 → 0 ≤ c i ∧ c i ≤ 255) (h : dcode 68 c = 0) {i : Nat} (hi : i < 68) :
    ebyte (c 0) (fun j => num (fun i => c (4 + 4 * j + i)) 4) (fun i => c (28 + i)) i = c i := by
  unfold dcode at h
  rw [if_neg (fun h => h rfl)] at h
  by_cases h1 : cleanB (tab 68 c) = true
  · rw [if_pos h1] at h; omega
  rw [if_neg h1] at h
  by_cases h2 : c 64 = 68 ∧ c 65 = 79 ∧ c 66 = 78 ∧ c 67 = 69
  rotate_left
  · rw [if_pos h2] at h; omega
  rw [if_neg (not_not_intro h2)] at h
  by_cases h3 : num (fun i => c (60 + i)) 4 = val (more 0#32 (tab 60 c))
  rotate_left
  · rw [if_pos h3] at h; omega
  rw [if_neg (not_not_intro h3)] at h
  by_cases h4 : 1 ≤ c 0 ∧ c 0 ≤ 3 ∧ c 1 = 0 ∧ c 2 = 0 ∧ c 3 = 0
  rotate_left
  · rw [if_pos h4] at h; omega
  have lo : ∀ i, i < 60 → plain (c 0) (fun j => num (fun i => c (4 + 4 * j + i)) 4) (fun i => c (28 + i)) i = c i := by
    intro i hi
    unfold plain part
    by_cases e28 : i < 28
    · rw [if_pos e28]
      by_cases e0 : i = 0
      · rw [if_pos e0, e0]
      · rw [if_neg e0]
        by_cases e4 : i < 4
        · rw [if_pos e4]
          have : i = 1 ∨ i = 2 ∨ i = 3 := by omega
          rcases this with rfl | rfl | rfl
          · exact h4.2.2.1.symm
          · exact h4.2.2.2.1.symm
          · exact h4.2.2.2.2.symm
        · rw [if_neg e4, if_pos (by omega), le_num (fun q hq => hb _ (by omega)) (Nat.mod_lt _ (by omega))]
          congr 1; omega
    · rw [if_neg e28, if_pos hi]
      show c (28 + (i - 28)) = c i
      congr 1; omega
  unfold ebyte
  by_cases e : i < 60
  · rw [if_pos e]; exact lo i e
  · rw [if_neg e]
    by_cases e2 : i < 64
    · rw [if_pos e2]
      unfold psum
      rw [tab_congr lo, ← h3, le_num (fun q hq => hb _ (by omega)) (by omega)]
      congr 1; omega
    · rw [if_neg e2]
      have : i = 64 ∨ i = 65 ∨ i = 66 ∨ i = 67 := by omega
      rcases this with rfl | rfl | rfl | rfl
      · exact h2.1.symm
      · exact h2.2.1.symm
      · exact h2.2.2.1.symm
      · exact h2.2.2.2.symm
end Tg
end Go.Proofs.Ytgohmjidbbecpaa
