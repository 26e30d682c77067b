/-
  The awakening call of the statements: it returns true, and whatever was in memory is as it was.
-/
import Derived.Test.YtgohmjidbbecpaaBack
namespace Go.Proofs.Ytgohmjidbbecpaa
open Go.ChangeShapes Go.WideShapes Go.ChangeAt Go.RowKit
namespace Tg
open Crc
/-- Bytes of a page, in memory of their own. -/
theorem Blk.page_row {w : World} {g : Nat} {k : Int} {v d : Nat → Int} (h : Blk w g 68 (fun i => .int .u8 (ebyte k v d i))) (hk : 1 ≤ k ∧ k ≤ 3) (hd : ∀ i, 0 ≤ d i ∧ d i ≤ 255) : Row w (some ⟨g, 0, none⟩) 68 68 (tab 68 (ebyte k v d)) := by
  have := h.row (ebyte_bd k v d hk hd) 0 68 68 (by omega) (by omega) (by omega)
  simpa using this

/-- Decode of what Encode laid. -/
theorem dec_enc {w : World} {g : Nat} {k : Int} {v d : Nat → Int} (h : Blk w g 68 (fun i => .int .u8 (ebyte k v d i))) (hk : 1 ≤ k ∧ k ≤ 3) (hd : ∀ i, 0 ≤ d i ∧ d i ≤ 255) (hv : ∀ j, j < 6 → 0 ≤ v j ∧ v j ≤ 4294967295) :
    Calls Try.prog 10 #[.slice (some ⟨g, 0, none⟩) 68 68] w fun e w' => e = .returned (.tuple #[.agg (pageA k v d), .int .i64 0]) ∧ Keep (fun _ => False) w w' := by
  have := dec_yes (h.page_row hk hd) (dcode_enc k v d hk)
  rw [page_back k v d hv] at this
  exact this

theorem Blk.text_mark {w : World} {g : Nat} {k : Int} {v d : Nat → Int} (h : Blk w g 68 (fun i => .int .u8 (ebyte k v d i))) (hk : 1 ≤ k ∧ k ≤ 3) (hd : ∀ i, 0 ≤ d i ∧ d i ≤ 255) :
    (convert 23 9 (.slice (some ⟨g, 64, none⟩) 4 4)).run Try.prog w = .ok (.string { data := #[68, 79, 78, 69] }) w := by
  have := (h.row (ebyte_bd k v d hk hd) 64 4 4 (by omega) (by omega) (by omega)).text
  exact this

theorem make68 (w : World) : ∃ w', (Instr.makeSlice 23 (.int .i64 68) (.int .i64 68)).run Try.prog w = .ok (.slice (some ⟨w.heap.size, 0, none⟩) 68 68) w' ∧ Blk w' w.heap.size 68 (fun _ => .int .u8 0) ∧ Keep (fun _ => False) w w' ∧ w'.heap.size = w.heap.size + 1 :=
  ⟨_, make_bytes 68 (by omega) w, blk_made w 5 68, (Keep.refl _ _).alloc _, by simp⟩

/-- The page of the example. -/
def five (j : Nat) : Int := if j = 0 then 5 else 0
theorem five_eq : pageA 1 five (fun _ => 0) = #[Value.int .i64 1, .int .u32 5, .int .u32 0, .int .u32 0, .int .u32 0, .int .u32 0, .int .u32 0, .int .u8 0, .int .u8 0, .int .u8 0, .int .u8 0, .int .u8 0, .int .u8 0, .int .u8 0, .int .u8 0, .int .u8 0, .int .u8 0, .int .u8 0, .int .u8 0, .int .u8 0, .int .u8 0, .int .u8 0, .int .u8 0, .int .u8 0, .int .u8 0, .int .u8 0, .int .u8 0, .int .u8 0, .int .u8 0, .int .u8 0, .int .u8 0, .int .u8 0, .int .u8 0, .int .u8 0, .int .u8 0, .int .u8 0, .int .u8 0, .int .u8 0, .int .u8 0] := by rfl
theorem five_bd (j : Nat) : 0 ≤ five j ∧ five j ≤ 4294967295 := by unfold five; split <;> omega

set_option maxHeartbeats 1000000 in
theorem awake_any (w : World) : Calls Try.prog 8 #[] w fun e w' => e = .returned (.bool true) ∧ Keep (fun _ => False) w w' := by
  have henc := enc_any 1 five (fun _ => 0) w (by omega) (fun _ => by omega)
  rw [five_eq] at henc
  go_enter Try.func8, Try.ntmps8
  go_wp2_with fail
  refine henc.mono ?_
  rintro e w1 ⟨g, rfl, hg, hb1, hk1⟩
  have c0 : w1.cell? ⟨g, 0, none⟩ = some (.int .u8 1) := (hb1 0 (by omega)).1
  have c4 : w1.cell? ⟨g, 4, none⟩ = some (.int .u8 5) := (hb1 4 (by omega)).1
  have htx := hb1.text_mark (by omega) (fun _ => by omega)
  have hdec := dec_enc hb1 (by omega) (fun _ => by omega) (fun j _ => five_bd j)
  clear henc
  go_wp2_with fail
  refine hdec.mono ?_
  rintro e w2 ⟨rfl, hk2⟩
  have hb0 := blk_alloc w2 _ 30 39 _ (pageA_get 0 (fun _ => 0) (fun _ => 0))
  have hk0 : Keep (fun _ => False) w2 (w2.alloc (.cells (pageA 0 (fun _ => 0) (fun _ => 0)) 30)) := (Keep.refl _ _).alloc _
  rw [show pageA 0 (fun _ => 0) (fun _ => 0) = _ from noPage_eq] at hb0 hk0
  obtain ⟨w3, hst, hb3, hk3⟩ := store_page hb0 1 five (fun _ => 0)
  have hK3 : Keep (fun _ => False) w1 w3 := (hk2.trans hk0).next hk3 (fun x hx e => by have := hk2.size; omega)
  obtain ⟨w4, hmk, hb4, hk4, hs4⟩ := make68 w3
  have hl3 := hb3.lt (by omega)
  clear hdec htx c0 c4 hb0 hk0 hk3
  go_wp2_with (refine wpList_store_run rfl 30 (.tmp 3) (.tmp 40) rfl (by rfl) (by rfl) hst ?_)
  clear hst hmk
  have hg1 := hb1.lt (by omega)
  go_loopw [6] (fun i wr => ∃ q : Nat, q ≤ 68 ∧ i = .int .i64 q ∧ Blk wr w3.heap.size 68 (fun j => .int .u8 (if j < q then 255 else 0)) ∧ Keep (fun b => b = w3.heap.size) w4 wr) (fun i _ => 68 - (intOf i).toNat)
  case atStart => exact ⟨0, by omega, rfl, hb4.congr (fun i hi => by rw [if_neg (by omega)]), Keep.refl _ _⟩
  case round =>
    obtain ⟨q, hq, rfl, hbq, hkq⟩ := hrel
    by_cases hlt : q < 68
    · have hc := (hbq q hlt).1
      have hf := (hbq q hlt).2
      have hq68 : (q : Int) < 68 := by omega
      go_wp2_with fail
      refine ⟨⟨q + 1, by omega, by go_num, (hbq.set q _).congr (fun i hi => ?_), hkq.setCell (Or.inl rfl) _⟩, by simp [intOf]; omega⟩
      by_cases e : i = q
      · subst e; rw [if_pos rfl, if_pos (by omega)]
      · rw [if_neg e]
        by_cases e2 : i < q
        · rw [if_pos e2, if_pos (by omega)]
        · rw [if_neg e2, if_neg (by omega)]
    · obtain rfl : q = 68 := by omega
      have hbp : Blk wr w2.heap.size 39 (pcell 1 five (fun _ => 0)) := (hb3.keep hk4 (fun e => e)).keep hkq (by omega)
      have p0 : wr.cell? ⟨w2.heap.size, 0, none⟩ = some (.int .i64 1) := (hbp 0 (by omega)).1
      have p1 : wr.cell? ⟨w2.heap.size, 1, none⟩ = some (.int .u32 5) := (hbp 1 (by omega)).1
      have hrc : Row wr (some ⟨w3.heap.size, 0, none⟩) 68 68 (tab 68 (fun _ => 255)) := by
        have := (hbq.congr (g := fun _ => .int .u8 255) (fun i hi => by rw [if_pos hi])).row (d := fun _ => 255) (fun _ => by omega) 0 68 68 (by omega) (by omega) (by omega)
        simpa using this
      have hcl := clean_any hrc
      rw [show cleanB (tab 68 (fun _ => 255)) = true from rfl] at hcl
      have hbb : Blk wr g 68 (fun i => .int .u8 (ebyte 1 five (fun _ => 0) i)) := ((hb1.keep hK3 (fun e => e)).keep hk4 (fun e => e)).keep hkq (by have := hK3.size; omega)
      have hcn := clean_any (hbb.page_row (by omega) (fun _ => by omega))
      rw [not_clean (i := 64) (by omega) (by rw [(ebyte_mark 1 five (fun _ => 0)).1]; decide)] at hcn
      have HK : Keep (fun _ => False) w wr := ((hk1.trans hK3).trans hk4).next hkq (fun x hx e => by have := hk1.size; have := hK3.size; omega)
      have hgw : ¬ g = w3.heap.size := by have := hK3.size; omega
      clear hbq hkq hb4 hk4 hs4 hb3 hK3 hk2 hb1 hk1 hbp hrc hbb
      go_wp2_with fail
      refine hcl.mono ?_
      rintro e w5 ⟨rfl, rfl⟩
      go_wp2_with fail
      refine hcn.mono ?_
      rintro e w5 ⟨rfl, rfl⟩
      go_wp2_with fail
      go_ret
      exact ⟨rfl, HK⟩
end Tg
end Go.Proofs.Ytgohmjidbbecpaa
