/-
  What the document's own Encode answers: the page's bytes, in new memory.
-/
import Derived.Test.YtgohmjidbbecpaaRefC
namespace Go.Proofs.Ytgohmjidbbecpaa
open Go.ChangeShapes Go.WideShapes Go.ChangeAt Go.RowKit
namespace Tg
open Crc
def head28 (k : Int) (v : Nat → Int) : List Int := [k, 0, 0, 0] ++ bytes4 (v 0) ++ bytes4 (v 1) ++ bytes4 (v 2) ++ bytes4 (v 3) ++ bytes4 (v 4) ++ bytes4 (v 5)
theorem tab_succ (n : Nat) (d : Nat → Int) : tab (n + 1) d = tab n d ++ [d n] := by simp [tab, List.range_succ]
theorem head60 (k : Int) (v d : Nat → Int) : head28 k v ++ tab 32 d = tab 60 (plain k v d) := by kernel_rfl
theorem all68 (k : Int) (v d : Nat → Int) : tab 60 (plain k v d) ++ bytes4 (psum k v d) ++ [68, 79, 78, 69] = tab 68 (ebyte k v d) := by kernel_rfl

set_option maxHeartbeats 1000000 in
theorem renc_any (k : Int) (v d : Nat → Int) (w : World) (hk : 1 ≤ k ∧ k ≤ 3) (hd : ∀ i, 0 ≤ d i ∧ d i ≤ 255) :
    Calls Try.prog 14 #[.agg (pageA k v d)] w fun e w' => ∃ g' cap', e = .returned (.slice (some ⟨g', 0, none⟩) 68 cap') ∧ Row w' (some ⟨g', 0, none⟩) 68 cap' (tab 68 (ebyte k v d)) ∧ Keep (fun _ => False) w w' := by
  have hb := blk_alloc w _ 30 39 _ (pageA_get k v d)
  have hk0 : Keep (fun _ => False) w (w.alloc (.cells (pageA k v d) 30)) := (Keep.refl _ _).alloc _
  generalize pageA k v d = A at hb hk0 ⊢
  have h0 : (w.alloc (.cells A 30)).cell? ⟨w.heap.size, 0, none⟩ = some (.int .i64 k) := (hb 0 (by omega)).1
  have kS : ∀ w', Keep (fun _ => False) (w.alloc (.cells A 30)) w' → w'.cell? ⟨w.heap.size, 1, none⟩ = some (.int .u32 (v 0)) ∧ w'.cell? ⟨w.heap.size, 2, none⟩ = some (.int .u32 (v 1)) ∧ w'.cell? ⟨w.heap.size, 3, none⟩ = some (.int .u32 (v 2)) ∧ w'.cell? ⟨w.heap.size, 4, none⟩ = some (.int .u32 (v 3)) ∧ w'.cell? ⟨w.heap.size, 5, none⟩ = some (.int .u32 (v 4)) ∧ w'.cell? ⟨w.heap.size, 6, none⟩ = some (.int .u32 (v 5)) := fun w' h =>
    ⟨((hb.keep h (fun e => e)) 1 (by omega)).1, ((hb.keep h (fun e => e)) 2 (by omega)).1, ((hb.keep h (fun e => e)) 3 (by omega)).1, ((hb.keep h (fun e => e)) 4 (by omega)).1, ((hb.keep h (fun e => e)) 5 (by omega)).1, ((hb.keep h (fun e => e)) 6 (by omega)).1⟩
  have pS : ∀ w', Keep (fun _ => False) (w.alloc (.cells A 30)) w' → ∀ q, q < 32 → w'.cell? ⟨w.heap.size, 7 + q, none⟩ = some (.int .u8 (d q)) := fun w' h q hq => by
    rw [((hb.keep h (fun e => e)) (7 + q) (by omega)).1]
    unfold pcell
    rw [if_neg (by omega), if_neg (by omega), show 7 + q - 7 = q by omega]
  have hG0 : Gr (w.alloc (.cells A 30)) ((w.alloc (.cells A 30)).alloc (.cells #[.int .u8 k, .int .u8 0, .int .u8 0, .int .u8 0] 5)) (w.heap.size + 1) 4 [k, 0, 0, 0] := by
    have hr := row_new (w.alloc (.cells A 30)) [k, 0, 0, 0] (0, 0) (w.heap.size + 1) 4 (by simp) (by simp) (by omega) (by simp; omega)
    refine ⟨hr, fun i hi => ⟨?_, ?_⟩, by simp, (Keep.refl _ _).alloc _⟩
    · have e : ((w.alloc (.cells A 30)).alloc (.cells #[.int .u8 k, .int .u8 0, .int .u8 0, .int .u8 0] 5)).cell? ⟨w.heap.size + 1, i, none⟩ = _ := hr.cellAt hi
      rw [e]; rfl
    · exact World.frozen?_alloc_at _ _ _ _ (by simp)
  go_enter Try.func14, Try.ntmps14
  go_wp2_with fail
  have hG := hG0.drew
  clear hG0
  go_region_held3 (fun w' => w'.cell? ⟨w.heap.size, 1, none⟩ = some (.int .u32 (v 0)) ∧ w'.cell? ⟨w.heap.size, 2, none⟩ = some (.int .u32 (v 1)) ∧ w'.cell? ⟨w.heap.size, 3, none⟩ = some (.int .u32 (v 2)) ∧ w'.cell? ⟨w.heap.size, 4, none⟩ = some (.int .u32 (v 3)) ∧ w'.cell? ⟨w.heap.size, 5, none⟩ = some (.int .u32 (v 4)) ∧ w'.cell? ⟨w.heap.size, 6, none⟩ = some (.int .u32 (v 5))) (exact kS _ (Gr.keep (by assumption)))
    ((go_at_call 23; refine Calls.mono (rput_any (by assumption) (by simp [bytes4]) _ _ (by simp [bytes4])) ?_; rintro e w' ⟨g', cap', rfl, hG'⟩))
  have hG6 : Gr (w.alloc (.cells A 30)) w' g' cap' (head28 k v) := hG'
  clear hG hG'
  go_wp2_with fail
  go_loopw [3, 4] (fun b i wr => ∃ (q g2 cap2 : Nat), q ≤ 32 ∧ i = .int .i64 q ∧ b = .slice (some ⟨g2, 0, none⟩) (28 + q) cap2 ∧ Gr (w.alloc (.cells A 30)) wr g2 cap2 (head28 k v ++ tab q d)) (fun _ i _ => 32 - (intOf i).toNat)
  case atStart => exact ⟨0, _, _, by omega, rfl, rfl, by simpa [tab] using hG6⟩
  case round =>
    obtain ⟨q, g2, cap2, hq, rfl, rfl, hGq⟩ := hrel
    clear hG6
    have hlq : (head28 k v ++ tab q d).length = 28 + q := by rw [List.length_append, tab_len]; rfl
    by_cases hlt : q < 32
    · have hq32 : (q : Int) < 32 := by omega
      have hcq := pS wr hGq.keep q hlt
      have hK : Keep (fun _ => False) wr (wr.alloc (.cells #[.int .u8 (d q)] 5)) := (Keep.refl _ _).alloc _
      obtain ⟨g3, cap3, w3, hrun, hG3⟩ := (hGq.more hK).app hlq (row_new wr [d q] (0, 0) wr.heap.size 1 rfl (by simp) (by omega) (by simpa using hd q)) (by simp; omega)
      rw [List.append_assoc, ← tab_succ] at hG3
      simp only [List.length_cons, List.length_nil, Nat.zero_add] at hrun
      clear hK hGq hlq kS pS
      generalize d q = z at hcq hrun
      go_wp2_with (at_builtin; refine wpList_append_run rfl (.tmp 32) (.tmp 37) 23 rfl (by rfl) (by rfl) hrun ?_)
      exact ⟨⟨q + 1, g3, cap3, by omega, by go_num, by rw [Nat.add_assoc], hG3⟩, by simp [intOf]; omega⟩
    · obtain rfl : q = 32 := by omega
      rw [head60] at hGq hlq
      have hrs : Row wr (some ⟨g2, 0, none⟩) 60 cap2 (tab 60 (plain k v d)) := by have := hGq.row; rw [hlq] at this; exact this
      have hsum := refsum_any _ _ _ _ _ hrs
      have hput := rput_any hGq (by rw [hlq]; omega) (psum k v d) 60 hlq.symm
      rw [show val (more 0#32 (tab 60 (plain k v d))) = psum k v d from rfl] at hsum
      clear kS pS
      generalize hz : psum k v d = z at hsum hput
      go_wp2_with fail
      refine hsum.mono ?_
      rintro e w4 ⟨rfl, rfl⟩
      go_wp2_with fail
      refine hput.mono ?_
      rintro e w5 ⟨g5, cap5, rfl, hG5⟩
      have hl5 : (tab 60 (plain k v d) ++ bytes4 z).length = 64 := by rw [List.length_append, hlq]; rfl
      have hK5 : Keep (fun _ => False) w5 (w5.alloc (.cells #[.int .u8 68, .int .u8 79, .int .u8 78, .int .u8 69] 5)) := (Keep.refl _ _).alloc _
      obtain ⟨g6, cap6, w6, hrun6, hG6⟩ := (hG5.more hK5).app hl5 (row_new w5 [68, 79, 78, 69] (0, 0) w5.heap.size 4 rfl (by simp) (by omega) (by decide)) (by simp)
      simp only [List.length_cons, List.length_nil, Nat.zero_add, Nat.reduceAdd] at hrun6
      rw [← hz, all68] at hG6
      clear hsum hput hK5 hG5 hGq hrs
      go_wp2_with (at_builtin; refine wpList_append_run rfl (.tmp 43) (.tmp 44) 23 rfl (by rfl) (by rfl) hrun6 ?_)
      go_ret
      have hr6 := hG6.row
      rw [tab_len] at hr6
      exact ⟨g6, cap6, rfl, hr6, hk0.trans hG6.keep⟩
end Tg
end Go.Proofs.Ytgohmjidbbecpaa
