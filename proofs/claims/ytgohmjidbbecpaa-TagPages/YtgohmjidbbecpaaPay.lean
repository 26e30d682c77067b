/-
  Sector bytes out of a text; pages and their bytes out of memory and into it.
-/
import Derived.Test.YtgohmjidbbecpaaAwake
namespace Go.Proofs.Ytgohmjidbbecpaa
open Go.ChangeShapes Go.WideShapes Go.ChangeAt Go.RowKit
namespace Tg
open Crc
/-- The bytes of a text, 0 behind it. -/
def sbyte (s : ByteArray) (i : Nat) : Int := if h : i < s.size then (s[i].toNat : Int) else 0
theorem sbyte_bd (s : ByteArray) (i : Nat) : 0 ≤ sbyte s i ∧ sbyte s i ≤ 255 := by
  unfold sbyte
  split
  · have := s[i].toNat_lt; omega
  · omega
def payA (d : Nat → Int) : Array Value := ((List.range 32).map fun i => Value.int .u8 (d i)).toArray
theorem payA_get (d : Nat → Int) (i : Nat) (hi : i < 32) : (payA d)[i]? = some (.int .u8 (d i)) := by simp [payA, hi]
theorem payA_size (d : Nat → Int) : (payA d).size = 32 := by simp [payA]
theorem zero32 : payA (fun _ => 0) = #[Value.int .u8 0, Value.int .u8 0, Value.int .u8 0, Value.int .u8 0, Value.int .u8 0, Value.int .u8 0, Value.int .u8 0, Value.int .u8 0, Value.int .u8 0, Value.int .u8 0, Value.int .u8 0, Value.int .u8 0, Value.int .u8 0, Value.int .u8 0, Value.int .u8 0, Value.int .u8 0, Value.int .u8 0, Value.int .u8 0, Value.int .u8 0, Value.int .u8 0, Value.int .u8 0, Value.int .u8 0, Value.int .u8 0, Value.int .u8 0, Value.int .u8 0, Value.int .u8 0, Value.int .u8 0, Value.int .u8 0, Value.int .u8 0, Value.int .u8 0, Value.int .u8 0, Value.int .u8 0] := by rfl
theorem size28 : (Try.prog.info? 28).map (·.size) = some 32 := by kernel_rfl
theorem under28 : ∃ d, Try.prog.underlying 28 = some d ∧ d.isRow = true := ⟨_, Try.underlying28, rfl⟩
theorem store_pay {w : World} {p o N : Nat} {f : Nat → Value} (h : Blk w p N f) (ho : o + 32 ≤ N) (d : Nat → Int) :
    ∃ w', (Instr.storeAt 28 (.pointer (some ⟨p, o, none⟩)) (.agg (payA d))).run Try.prog w = .ok () w' ∧ Blk w' p N (fun i => if o ≤ i ∧ i < o + 32 then .int .u8 (d (i - o)) else f i) ∧ Keep (fun b => b = p) w w' := by
  have ht : w.there p o (payA d).size := fun j hj => by rw [payA_size] at hj; exact ⟨by rw [(h (o + j) (by omega)).1]; rfl, (h (o + j) (by omega)).2⟩
  refine ⟨_, run_storeAt_mid w p o 28 (payA d) ht (by rw [payA_size]; exact size28) (all_oneCell_toArray (fun x hx => by simp at hx; obtain ⟨i, _, rfl⟩ := hx; rfl)), ?_, (Keep.refl (fun b => b = p) w).setCells (b := p) (Or.inl rfl) _ _⟩
  exact h.setCells o 32 (fun i => .int .u8 (d i)) ho
theorem Blk.range_pay {w : World} {p o N : Nat} {f : Nat → Value} {d : Nat → Int} (h : Blk w p N f) (ho : o + 32 ≤ N) (hf : ∀ i, i < 32 → f (o + i) = .int .u8 (d i)) : w.rangeAt p o (payA d).toList := by
  intro j x hx
  have hj : j < 32 := by have := (List.getElem?_eq_some_iff.1 hx).1; simpa [payA] using this
  rw [(h (o + j) (by omega)).1, hf j hj, ← hx]
  simp [payA, hj]
theorem load_pay {w : World} {p o N : Nat} {f : Nat → Value} {d : Nat → Int} (h : Blk w p N f) (ho : o + 32 ≤ N) (hf : ∀ i, i < 32 → f (o + i) = .int .u8 (d i)) : (loadVar 28 ⟨p, o, none⟩).run Try.prog w = .ok (.agg (payA d)) w := by
  obtain ⟨t, h1, h2⟩ := under28
  have := run_loadVar_mid (P := Try.prog) w p o 28 (payA d).toList t (h.range_pay ho hf) h1 h2 (by rw [size28]; simp [payA])
  simpa using this
theorem loadAt_pay {w : World} {p o N : Nat} {f : Nat → Value} {d : Nat → Int} (h : Blk w p N f) (ho : o + 32 ≤ N) (hf : ∀ i, i < 32 → f (o + i) = .int .u8 (d i)) : (Instr.loadAt 28 (.pointer (some ⟨p, o, none⟩))).run Try.prog w = .ok (.agg (payA d)) w := by
  obtain ⟨t, h1, h2⟩ := under28
  have := run_loadAt_mid (P := Try.prog) w p o 28 (payA d).toList t (h.range_pay ho hf) h1 h2 (by rw [size28]; simp [payA])
  simpa using this

/-- A page laid into a new variable. -/
theorem new_page (w : World) (k : Int) (v d : Nat → Int) : ∃ w', (Instr.storeAt 30 (.pointer (some ⟨w.heap.size, 0, none⟩)) (.agg (pageA k v d))).run Try.prog (w.alloc (.cells #[Value.int .i64 0, .int .u32 0, .int .u32 0, .int .u32 0, .int .u32 0, .int .u32 0, .int .u32 0, .int .u8 0, .int .u8 0, .int .u8 0, .int .u8 0, .int .u8 0, .int .u8 0, .int .u8 0, .int .u8 0, .int .u8 0, .int .u8 0, .int .u8 0, .int .u8 0, .int .u8 0, .int .u8 0, .int .u8 0, .int .u8 0, .int .u8 0, .int .u8 0, .int .u8 0, .int .u8 0, .int .u8 0, .int .u8 0, .int .u8 0, .int .u8 0, .int .u8 0, .int .u8 0, .int .u8 0, .int .u8 0, .int .u8 0, .int .u8 0, .int .u8 0, .int .u8 0] 30)) = .ok () w' ∧ Blk w' w.heap.size 39 (pcell k v d) ∧ Keep (fun _ => False) w w' := by
  have hb0 := blk_alloc w _ 30 39 _ (pageA_get 0 (fun _ => 0) (fun _ => 0))
  have hk0 : Keep (fun _ => False) w (w.alloc (.cells (pageA 0 (fun _ => 0) (fun _ => 0)) 30)) := (Keep.refl _ _).alloc _
  rw [show pageA 0 (fun _ => 0) (fun _ => 0) = _ from noPage_eq] at hb0 hk0
  obtain ⟨w3, hst, hb3, hk3⟩ := store_page hb0 k v d
  exact ⟨w3, hst, hb3, hk0.next hk3 (fun x hx e => by omega)⟩

set_option maxHeartbeats 400000 in
theorem payload_any (s : ByteArray) (w : World) (hs : s.size ≤ maxLen) :
    Calls Try.prog 12 #[.string s] w fun e w' => e = .returned (.agg (payA (sbyte s))) ∧ Keep (fun _ => False) w w' := by
  unfold maxLen at hs
  have hs63 : (s.size : Int) ≤ 9223372036854775807 := by omega
  have hA := (blk_alloc w _ 28 32 _ (payA_get (fun _ => 0))).alloc (.cells (payA (fun _ => 0)) 28)
  have hB := blk_alloc (w.alloc (.cells (payA (fun _ => 0)) 28)) _ 28 32 _ (payA_get (fun _ => 0))
  have hK : Keep (fun _ => False) w ((w.alloc (.cells (payA (fun _ => 0)) 28)).alloc (.cells (payA (fun _ => 0)) 28)) := ((Keep.refl _ _).alloc _).alloc _
  simp only [World.size_alloc] at hB
  rw [zero32] at hA hB hK
  go_enter Try.func12, Try.ntmps12
  go_wp2_with fail
  go_loopw [4] (fun i wr => ∃ q : Nat, q ≤ 32 ∧ q ≤ s.size ∧ i = .int .i64 q ∧ Blk wr w.heap.size 32 (fun _ => .int .u8 0) ∧ Blk wr (w.heap.size + 1) 32 (fun j => .int .u8 (if j < q then sbyte s j else 0)) ∧ Keep (fun _ => False) w wr) (fun i _ => 32 - (intOf i).toNat)
  case atStart => exact ⟨0, by omega, by omega, rfl, hA, hB.congr (fun i hi => by rw [if_neg (by omega)]), hK⟩
  case round =>
    obtain ⟨q, hq, hqs, rfl, h1, h2, hk⟩ := hrel
    clear hA hB hK
    have fin : ¬ (q < s.size ∧ q < 32) → ∀ i, i < 32 → (if i < q then sbyte s i else 0) = sbyte s i := fun hn i hi => by
      by_cases e : i < q
      · rw [if_pos e]
      · rw [if_neg e]; unfold sbyte; rw [dif_neg (by omega)]
    by_cases hlt : q < s.size ∧ q < 32
    · obtain ⟨ha, hb⟩ := hlt
      have hc := (h2 q hb).1
      have hf := (h2 q hb).2
      have ha' : (q : Int) < s.size := by omega
      have hb' : (q : Int) < 32 := by omega
      have hv : sbyte s q = (s[q].toNat : Int) := by unfold sbyte; rw [dif_pos ha]
      have HV : Hid (sbyte s q = (s[q].toNat : Int)) := hv
      clear fin hv
      go_wp2_with fail
      refine ⟨⟨q + 1, by omega, by omega, by go_num, h1.other (by simp) _, (h2.set q _).congr (fun i hi => ?_), hk.setCell (Or.inr (by simp)) _⟩, by simp [intOf]; omega⟩
      by_cases e : i = q
      · subst e; rw [if_pos rfl, if_pos (by omega), HV.out]
      · rw [if_neg e]
        by_cases e2 : i < q
        · rw [if_pos e2, if_pos (by omega)]
        · rw [if_neg e2, if_neg (by omega)]
    · have h3 := h2.congr (g := fun j => .int .u8 (sbyte s j)) (fun i hi => by rw [fin hlt i hi])
      have hld := loadAt_pay (o := 0) (d := sbyte s) h3 (by omega) (fun i hi => by rw [Nat.zero_add])
      obtain ⟨w2, hst, hb2, hk2⟩ := store_pay (o := 0) h1 (by omega) (sbyte s)
      have hld2 := load_pay (o := 0) (d := sbyte s) hb2 (by omega) (fun i hi => by rw [if_pos (by omega), Nat.zero_add, Nat.sub_zero])
      have HK : Keep (fun _ => False) w w2 := hk.next hk2 (fun x hx e => by omega)
      clear h1 h2 h3 hb2 hk2 hk fin
      by_cases hqs' : (q : Int) < s.size
      · have hb' : ¬ (q : Int) < 32 := by omega
        go_wp2_with (first | refine wpList_load_run rfl 28 (.tmp 3) rfl (by rfl) hld ?_ | refine wpList_store_run rfl 28 (.tmp 2) (.tmp 20) rfl (by rfl) (by rfl) hst ?_)
        refine bodyPost_ret (v := .agg (payA (sbyte s))) ?_ rfl ⟨rfl, HK⟩
        simp only [results, Try.results12]
        simp [asAddr, hld2]
      · have hd : decide ((q : Int) < s.size) = false := by simpa using hqs'
        go_wp2_with (first | refine wpList_load_run rfl 28 (.tmp 3) rfl (by rfl) hld ?_ | refine wpList_store_run rfl 28 (.tmp 2) (.tmp 20) rfl (by rfl) (by rfl) hst ?_)
        refine bodyPost_ret (v := .agg (payA (sbyte s))) ?_ rfl ⟨rfl, HK⟩
        simp only [results, Try.results12]
        simp [asAddr, hld2]
end Tg
end Go.Proofs.Ytgohmjidbbecpaa
