/-
  A page whose first chunks alone were written: what Decode and Clean answer.
-/
import Derived.Test.YtgohmjidbbecpaaSame
namespace Go.Proofs.Ytgohmjidbbecpaa
open Go.ChangeShapes Go.WideShapes Go.ChangeAt Go.RowKit
namespace Tg
open Crc
/-- Six numbers. -/
def six (v0 v1 v2 v3 v4 v5 : Int) (j : Nat) : Int := if j = 0 then v0 else if j = 1 then v1 else if j = 2 then v2 else if j = 3 then v3 else if j = 4 then v4 else v5
theorem build_page (k v0 v1 v2 v3 v4 v5 : Int) (d : Nat → Int) : Array.foldl (fun (cs : Array Value) x => cs.setIfInBounds (7 + x.snd) x.fst) #[.int .i64 k, .int .u32 v0, .int .u32 v1, .int .u32 v2, .int .u32 v3, .int .u32 v4, .int .u32 v5, .int .u8 0, .int .u8 0, .int .u8 0, .int .u8 0, .int .u8 0, .int .u8 0, .int .u8 0, .int .u8 0, .int .u8 0, .int .u8 0, .int .u8 0, .int .u8 0, .int .u8 0, .int .u8 0, .int .u8 0, .int .u8 0, .int .u8 0, .int .u8 0, .int .u8 0, .int .u8 0, .int .u8 0, .int .u8 0, .int .u8 0, .int .u8 0, .int .u8 0, .int .u8 0, .int .u8 0, .int .u8 0, .int .u8 0, .int .u8 0, .int .u8 0, .int .u8 0] (payA d).zipIdx 0 32 = pageA k (six v0 v1 v2 v3 v4 v5) d := by kernel_rfl
theorem Keep.undrew {S : Nat → Prop} {a w : World} (h : Keep S a.drew w) : Keep S a w := ⟨h.os, h.tape, h.output, h.size, h.block⟩
theorem page_bd {v0 : Int} (h : 0 ≤ v0 ∧ v0 ≤ 4294967295) : ∀ j, j < 6 → 0 ≤ six v0 0 0 0 0 0 j ∧ six v0 0 0 0 0 0 j ≤ 4294967295 := by
  intro j _
  unfold six
  repeat' split
  all_goals omega

/-- A page's first m chunks, the rest 255. -/
def cut (m : Nat) (c : Nat → Int) (i : Nat) : Int := if i < m * 4 then c i else 255
theorem cut_bd {m : Nat} {c : Nat → Int} (h : ∀ i, 0 ≤ c i ∧ c i ≤ 255) (i : Nat) : 0 ≤ cut m c i ∧ cut m c i ≤ 255 := by unfold cut; split; exact h i; omega
theorem cut_zero (c : Nat → Int) : cleanB (tab 68 (cut 0 c)) = true := by
  unfold cleanB
  rw [decide_eq_true]
  refine ⟨tab_len _ _, fun x hx => ?_⟩
  simp [tab, cut] at hx
  exact hx.2.symm
theorem cut_mid {m : Nat} {c : Nat → Int} (h0 : 0 < m) (h1 : m < 17) (hc : c 0 ≠ 255) : cleanB (tab 68 (cut m c)) = false ∧ dcode 68 (cut m c) = 9 := by
  have e0 : cut m c 0 ≠ 255 := by unfold cut; rw [if_pos (by omega)]; exact hc
  have ec := not_clean (i := 0) (c := cut m c) (by omega) e0
  refine ⟨ec, ?_⟩
  unfold dcode
  rw [if_neg (fun h => h rfl), if_neg (by rw [ec]; decide), if_pos]
  unfold cut
  rw [if_neg (show ¬ 64 < m * 4 by omega)]
  rintro ⟨e, _⟩
  omega
theorem code_zero (c : Nat → Int) : dcode 68 (cut 0 c) = 4 := by
  unfold dcode
  rw [if_neg (fun h => h rfl), if_pos (cut_zero c)]

theorem ret_true {b : Bool} (h : b = true) : Ending.returned (.bool b) = .returned (.bool true) := by rw [h]

set_option maxHeartbeats 1000000 in
theorem torn_no (k : Int) (lba : Int) (s : ByteArray) (m : Nat) (w : World) (hs : s.size ≤ maxLen) (hm : m ≤ 17) (hk : ¬ (1 ≤ k ∧ k ≤ 3)) :
    Calls Try.prog 6 #[.int .i64 k, .int .u32 lba, .string s, .int .i64 m] w fun e w' => e = .returned (.bool true) ∧ Keep (fun _ => False) w w' := by
  have hd1 : decide ((m : Int) < 0) = false := by simp
  have hd2 : decide ((17 : Int) < m) = false := by simp; omega
  have hps := payA_size (sbyte s)
  go_enter Try.func6, Try.ntmps6
  go_wp2_with fail
  refine (awake_any _).mono ?_
  rintro e w1 ⟨rfl, hk1⟩
  go_wp2_with fail
  refine (payload_any s w1 hs).mono ?_
  rintro e w2 ⟨rfl, hk2⟩
  go_wp2_with fail
  rw [build_page]
  refine (enc_no k _ _ w2 hk).mono ?_
  rintro e w3 ⟨rfl, hk3⟩
  clear hps
  go_wp2_with fail
  all_goals
    go_ret
    exact ⟨ret_true (by first | rfl | (simp; omega)), (hk1.trans hk2).trans hk3⟩

set_option maxHeartbeats 1000000 in
theorem torn_yes (k : Int) (lba : Int) (s : ByteArray) (m : Nat) (w : World) (hs : s.size ≤ maxLen) (hm : m ≤ 17) (hk : 1 ≤ k ∧ k ≤ 3) (hl : 0 ≤ lba ∧ lba ≤ 4294967295) :
    Calls Try.prog 6 #[.int .i64 k, .int .u32 lba, .string s, .int .i64 m] w fun e w' => e = .returned (.bool true) ∧ Keep (fun _ => False) w w' := by
  have hd1 : decide ((m : Int) < 0) = false := by simp
  have hd2 : decide ((17 : Int) < m) = false := by simp; omega
  have hps := payA_size (sbyte s)
  go_enter Try.func6, Try.ntmps6
  go_wp2_with fail
  refine (awake_any _).mono ?_
  rintro e w1 ⟨rfl, hk1⟩
  go_wp2_with fail
  refine (payload_any s w1 hs).mono ?_
  rintro e w2 ⟨rfl, hk2⟩
  go_wp2_with fail
  rw [build_page]
  refine (enc_any k _ _ w2 hk (sbyte_bd s)).mono ?_
  rintro e w3 ⟨g, rfl, hg, hb3, hk3⟩
  have hbe := ebyte_bd k (six lba 0 0 0 0 0) (sbyte s) hk (sbyte_bd s)
  have hK3 := (hk1.trans hk2).trans hk3
  have hg0 : w.heap.size ≤ g := by have := hk1.size; have := hk2.size; omega
  clear hps hk1 hk2 hk3 hg
  go_wp2_with fail
  go_loopw [11] (fun i wr => ∃ q : Nat, m * 4 ≤ q ∧ q ≤ 68 ∧ i = .int .i64 q ∧ Blk wr g 68 (fun j => .int .u8 (if m * 4 ≤ j ∧ j < q then 255 else ebyte k (six lba 0 0 0 0 0) (sbyte s) j)) ∧ Keep (fun _ => False) w wr) (fun i _ => 68 - (intOf i).toNat)
  case atStart => exact ⟨m * 4, by omega, by omega, by simp, hb3.congr (fun i hi => by rw [if_neg (by omega)]), hK3⟩
  case round =>
    obtain ⟨q, hq1, hq2, rfl, hbq, hkq⟩ := hrel
    by_cases hlt : q < 68
    · have hc := (hbq q hlt).1
      have hf := (hbq q hlt).2
      have hq68 : (q : Int) < 68 := by omega
      go_wp2_with fail
      refine ⟨⟨q + 1, by omega, by omega, by go_num, (hbq.set q _).congr (fun i hi => ?_), hkq.setCell (Or.inr hg0) _⟩, by simp [intOf]; omega⟩
      by_cases e : i = q
      · subst e; rw [if_pos rfl, if_pos (by omega)]
      · rw [if_neg e]
        by_cases e2 : m * 4 ≤ i ∧ i < q
        · rw [if_pos e2, if_pos (by omega)]
        · rw [if_neg e2, if_neg (by omega)]
    · obtain rfl : q = 68 := by omega
      have hbc : Blk wr g 68 (fun i => .int .u8 (cut m (ebyte k (six lba 0 0 0 0 0) (sbyte s)) i)) := hbq.congr (fun i hi => by
        unfold cut
        by_cases e : i < m * 4
        · rw [if_pos e, if_neg (by omega)]
        · rw [if_neg e, if_pos (by omega)])
      have hrow : Row wr (some ⟨g, 0, none⟩) 68 68 (tab 68 (cut m (ebyte k (six lba 0 0 0 0 0) (sbyte s)))) := by
        have := hbc.row (cut_bd hbe) 0 68 68 (by omega) (by omega) (by omega)
        simpa using this
      clear hb3 hbq hK3
      by_cases hm0 : m = 0
      · subst hm0
        have hdec := dec_no hrow (by rw [code_zero]; decide)
        rw [code_zero] at hdec
        go_wp2_with fail
        refine hdec.mono ?_
        rintro e w4 ⟨rfl, hk4⟩
        unfold noPage
        obtain ⟨w5, hst5, _, hk5⟩ := new_page w4 0 (fun _ => 0) (fun _ => 0)
        have hcl := clean_any ((hrow.keep hk4 (fun _ _ _ e => e)).keep hk5 (fun _ _ _ e => e))
        rw [cut_zero] at hcl
        clear hdec hbc hrow
        go_wp2_with (refine wpList_store_run rfl 30 (.tmp 12) (.tmp 52) rfl (by rfl) (by rfl) hst5 ?_)
        refine hcl.mono ?_
        rintro e w6 ⟨rfl, rfl⟩
        go_wp2_with fail
        go_ret
        exact ⟨rfl, (hkq.trans hk4).trans hk5⟩
      · by_cases hm17 : m = 17
        · subst hm17
          have hbE : Blk wr g 68 (fun i => .int .u8 (ebyte k (six lba 0 0 0 0 0) (sbyte s) i)) := hbc.congr (fun i hi => by unfold cut; rw [if_pos (by omega)])
          have hdec := dec_enc hbE hk (sbyte_bd s) (page_bd hl)
          go_wp2_with fail
          refine hdec.mono ?_
          rintro e w4 ⟨rfl, hk4⟩
          obtain ⟨w5, hst5, hb5, hk5⟩ := new_page w4 k (six lba 0 0 0 0 0) (sbyte s)
          have HK5 := (hkq.trans hk4).trans hk5
          clear hdec hbc hrow hbE hkq hk4 hk5 hm0
          go_wp2_with (refine wpList_store_run rfl 30 (.tmp 12) (.tmp 52) rfl (by rfl) (by rfl) hst5 ?_)
          have hu := Try.underlying28
          have hi : (Try.prog.info? 28).map (·.size) = some (payA (sbyte s)).toList.length := by rw [size28]; simp [payA]
          have kS : ∀ w', Keep (fun _ => False) w5 w' → w'.cell? ⟨w4.heap.size, 1, none⟩ = some (.int .u32 lba) ∧ w'.rangeAt w4.heap.size 7 (payA (sbyte s)).toList := fun w' h =>
            ⟨((hb5.keep h (fun e => e)) 1 (by omega)).1, (hb5.keep h (fun e => e)).range_pay (by omega) (fun i hi => by unfold pcell; rw [if_neg (by omega), if_neg (by omega), show 7 + i - 7 = i by omega])⟩
          have hE : ∀ w, (Op.equalIn 10000 28 (.agg (payA (sbyte s))) (.agg (payA (sbyte s)))).run Try.prog w = .ok true w := fun w => by rw [eq28', sameP_self]
          clear hst5
          go_region_held3 (fun w' => w'.cell? ⟨w4.heap.size, 1, none⟩ = some (.int .u32 lba) ∧ w'.rangeAt w4.heap.size 7 (payA (sbyte s)).toList) (first | exact kS _ ((Keep.refl _ _).drew) | exact kS _ (by assumption))
            ((go_at_call 12; refine (payload_any s _ hs).mono ?_; rintro e w6 ⟨rfl, hk6'⟩; have hk6 : Keep (fun _ => False) w5 w6 := hk6'.undrew))
          go_wp2_with fail
          go_ret
          exact ⟨rfl, HK5.trans hk6⟩
        · obtain ⟨ec, ed⟩ := cut_mid (m := m) (c := ebyte k (six lba 0 0 0 0 0) (sbyte s)) (by omega) (by omega) (by rw [ebyte_0]; omega)
          have hdec := dec_no hrow (by rw [ed]; decide)
          rw [ed] at hdec
          have n0 : ¬ (m : Int) = 0 := by omega
          have n17 : ¬ (m : Int) = 17 := by omega
          go_wp2_with fail
          refine hdec.mono ?_
          rintro e w4 ⟨rfl, hk4⟩
          unfold noPage
          obtain ⟨w5, hst5, _, hk5⟩ := new_page w4 0 (fun _ => 0) (fun _ => 0)
          have hcl := clean_any ((hrow.keep hk4 (fun _ _ _ e => e)).keep hk5 (fun _ _ _ e => e))
          rw [ec] at hcl
          clear hdec hbc hrow ec ed
          go_wp2_with (refine wpList_store_run rfl 30 (.tmp 12) (.tmp 52) rfl (by rfl) (by rfl) hst5 ?_)
          refine hcl.mono ?_
          rintro e w6 ⟨rfl, rfl⟩
          go_wp2_with fail
          go_ret
          exact ⟨rfl, (hkq.trans hk4).trans hk5⟩

theorem torn_any (k : Int) (lba : Int) (s : ByteArray) (n : Int) (w : World) (hs : s.size ≤ maxLen) (hl : 0 ≤ lba ∧ lba ≤ 4294967295) :
    Calls Try.prog 6 #[.int .i64 k, .int .u32 lba, .string s, .int .i64 n] w fun e w' => e = .returned (.bool true) ∧ Below w.heap.size w w' := by
  have fin : ∀ {e w'}, e = Ending.returned (.bool true) ∧ Keep (fun _ => False) w w' → e = .returned (.bool true) ∧ Below w.heap.size w w' := fun h => ⟨h.1, h.2.below (Nat.le_refl _) (fun _ e => e.elim)⟩
  by_cases hn : n < 0
  · go_enter Try.func6, Try.ntmps6
    go_wp2_with (go_at_call 8; refine (awake_any _).mono ?_; rintro e w' ⟨rfl, hb⟩)
    go_ret
    exact fin ⟨rfl, hb⟩
  by_cases hn2 : 17 < n
  · go_enter Try.func6, Try.ntmps6
    go_wp2_with (go_at_call 8; refine (awake_any _).mono ?_; rintro e w' ⟨rfl, hb⟩)
    go_ret
    exact fin ⟨rfl, hb⟩
  obtain ⟨m, rfl⟩ : ∃ m : Nat, n = m := ⟨n.toNat, by omega⟩
  by_cases hk : 1 ≤ k ∧ k ≤ 3
  · exact (torn_yes k lba s m w hs (by omega) hk hl).mono (fun _ _ h => fin h)
  · exact (torn_no k lba s m w hs (by omega) hk).mono (fun _ _ h => fin h)
end Tg
end Go.Proofs.Ytgohmjidbbecpaa
