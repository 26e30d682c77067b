/-
  Bytes made fit: both Decodes alike, and back.
-/
import Derived.Test.YtgohmjidbbecpaaBytesA
namespace Go.Proofs.Ytgohmjidbbecpaa
open Go.ChangeShapes Go.WideShapes Go.ChangeAt Go.RowKit
namespace Tg
open Crc

set_option maxHeartbeats 2000000 in
theorem bytes_t_in (a : Option Addr) (len cap : Nat) (l : List Int) (p : Nat) (ch : Int) (w : World) (hr : Row w a len cap l) (hlen : len ≤ 140737488351232) (h60 : 60 ≤ len) (hp : p < 68) :
    Calls Try.prog 5 #[.slice a len cap, .bool true, .int .i64 p, .int .u8 ch] w fun e w' => e = .returned (.bool true) ∧ Keep (fun _ => False) w w' := by
  go_enter Try.func5, Try.ntmps5
  go_wp2_with fail
  refine (awake_any _).mono ?_
  rintro e w1 ⟨rfl, hk1⟩
  obtain ⟨ga, capa, w2, hrun2, hG2⟩ := (Gr.start w1).app rfl ((hr.keep hk1 (fun _ _ _ e => e)).keep (((Keep.refl (fun _ => False) w1)).alloc (.cells #[] 5)) (fun _ _ _ e => e)) (by simp; omega)
  simp only [List.length_nil, Nat.zero_add] at hrun2
  rw [List.nil_append] at hG2
  have hll : l.length = len := hr.1
  have hd1 : (len : Int) ≤ 140737488351232 := by omega
  have h60' : decide ((60 : Int) ≤ len) = true := by simp; omega
  have hr2 := hr.keep (hk1.trans hG2.keep) (fun _ _ _ e => e)
  obtain ⟨b, o, rfl, _⟩ : ∃ b o, a = some ⟨b, o, none⟩ ∧ True := by
    rcases hr.2.2.2.2 with h0 | ⟨b, o, e, _⟩
    · omega
    · exact ⟨b, o, e, trivial⟩
  have hfit := fit_any hr2 h60
  have hlf : (fitted l).length = 68 := by
    unfold fitted bytes4
    simp [hll]; omega
  go_wp2_with (at_builtin; refine wpList_append_run rfl (.tmp 18) (.tmp 19) 23 rfl (by rfl) (by rfl) hrun2 ?_)
  refine hfit.mono ?_
  rintro e w3 ⟨g3, cap3, rfl, hGf⟩
  have hG3 : Gr w1 w3 g3 cap3 (fitted l) := ⟨hGf.row, hGf.free, by have := hGf.new; have := hG2.keep.size; omega, hG2.keep.trans hGf.keep⟩
  generalize fitted l = lf at hG3 hlf
  clear hfit hrun2 hG2 hGf hr2 hr hll
  have hdp : (p : Int) < 68 := by omega
  have hcp := hG3.row.cellAt (i := p) (by omega)
  have hfp := (hG3.free p (by have := hG3.row.2.1; omega)).2
  have hG := hG3.set (i := p) (by omega) (xor8_bd (lf.getD p 0) ch)
  have hln : (lf.set p (bits .xor .u8 (lf.getD p 0) ch)).length = 68 := by rw [List.length_set]; exact hlf
  clear hG3 hlf
  generalize lf.getD p 0 = z at *
  generalize lf.set p (bits .xor .u8 z ch) = L at hG hln
  obtain ⟨W, hW⟩ : ∃ W, w3.setCell ⟨g3, p, none⟩ (.int .u8 (bits .xor .u8 z ch)) = W := ⟨_, rfl⟩
  rw [hW] at hG
  have hL4 : 68 ≤ 140737488351232 := by omega
  obtain ⟨htx, g4, cap4, w4, hcv4, hG4⟩ := hG.text hln hL4
  have hK5 : Keep (fun _ => False) w4 (w4.alloc (.cells #[.int .u8 9] 5)) := (Keep.refl _ _).alloc _
  obtain ⟨g5, cap5, w5, hrun5, hG5⟩ := (hG4.more hK5).app hln (row_new w4 [9] (0, 0) w4.heap.size 1 rfl (by simp) (by omega) (by decide)) (by simp)
  simp only [List.length_cons, List.length_nil, Nat.zero_add] at hrun5
  have hbL : ∀ i, 0 ≤ L.getD i 0 ∧ L.getD i 0 ≤ 255 := getD_bound hG.row.2.2.2.1
  have hLt : tab 68 (fun i => L.getD i 0) = L := by rw [← hln]; exact list_tab L
  have hrc : Row w5 (some ⟨g5, 0, none⟩) 68 cap5 L := Row.init (m := [9]) (by
    have := hG5.row
    rw [List.length_append, hln] at this
    exact this)
  have hcap5 := hrc.2.1
  have hcap5' := hrc.2.2.1
  have hra : Row W (some ⟨g3, 0, none⟩) 68 cap3 L := by have := hG.row; rw [hln] at this; exact this
  obtain ⟨k, v, d, hpg, hprop⟩ := dpage_page (n := 68) hbL
  obtain ⟨x, hxd⟩ : ∃ x, dcode 68 (fun i => L.getD i 0) = x := ⟨_, rfl⟩
  have hdec := dec_any (c := fun i => L.getD i 0) (n := 68) (by rw [hLt]; exact hrc)
  have hrd : ∀ w', Row w' (some ⟨g3, 0, none⟩) 68 cap3 L → Calls Try.prog 16 #[.slice (some ⟨g3, 0, none⟩) 68 cap3] w' fun e w'' => e = .returned (.tuple #[.agg (pageA k v d), .int .i64 x]) ∧ Keep (fun _ => False) w' w'' := fun w' h => by
    have := rdec_any (c := fun i => L.getD i 0) (n := 68) (by rw [hLt]; exact h)
    rw [hpg, hxd] at this
    exact this
  rw [hpg, hxd] at hdec
  rw [hxd] at hprop
  have hn5 : (68 : Int) ≤ cap5 := by omega
  have hsame : x = 0 → 68 = 68 ∧ (1 ≤ k ∧ k ≤ 3) ∧ (∀ i, 0 ≤ d i ∧ d i ≤ 255) ∧ tab 68 (ebyte k v d) = L := fun e => by
    obtain ⟨e1, e2, e3, e4⟩ := hprop e
    clear e1
    exact ⟨rfl, e2, e3, (tab_congr (fun i hi => e4 i hi)).trans hLt⟩
  have hbb := hG.row.2.2.2.1
  clear hprop hpg hxd hLt hbL
  go_wp2_with (at_builtin; refine wpList_append_run rfl (.tmp 48) (.tmp 49) 23 rfl (by rfl) (by rfl) hrun5 ?_)
  refine hdec.mono ?_
  rintro e w6 ⟨rfl, hk6⟩
  obtain ⟨w7, hst7, hb7, hk7⟩ := new_page w6 k v d
  have hKc : Keep (fun _ => False) w5 w7 := hk6.trans hk7
  have hKa : Keep (fun _ => False) W w7 := hG5.keep.trans hKc
  have hrd' := hrd w7 (hra.keep hKa (fun _ _ _ e => e))
  clear hdec htx hcv4 hrun5 hrd
  go_wp2_with (refine wpList_store_run rfl 30 (.tmp 11) (.tmp 57) rfl (by rfl) (by rfl) hst7 ?_)
  refine hrd'.mono ?_
  rintro e w8 ⟨rfl, hk8⟩
  obtain ⟨w9, hst9, hb9, hk9⟩ := new_page w8 k v d
  have hK89 := hk8.trans hk9
  have hld1 := loadAt_page (hb7.keep hK89 (fun e => e))
  have hld2 := loadAt_page hb9
  have hsp := samePage_self k v d
  have hrc9 := (hrc.keep hKc (fun _ _ _ e => e)).keep hK89 (fun _ _ _ e => e)
  have hra9 := (hra.keep hKa (fun _ _ _ e => e)).keep hK89 (fun _ _ _ e => e)
  have hG9 := (hG5.more hKc).more hK89
  have hcl := clean_any hrc9
  have hcr := rclean_any hra9
  have htc := (hG9.row).text
  rw [List.length_append, hln, str_nine] at htc
  have hta := hra9.text
  have hno : ¬ 9223372036854775807 < (strOfNums L).size + 1 := by rw [strOfNums_size]; omega
  have HKw : Keep (fun _ => False) w w9 := hk1.trans (hG.keep.trans (hKa.trans hK89))
  simp only [List.length_cons, List.length_nil, Nat.zero_add] at htc
  clear hrd' hst7 hk6 hk7 hk8 hk9 hKc hKa hK89 hb9 hb7 hG5 hG4 hG9 hrc hra hrc9
  generalize cleanB L = cb at hcl hcr
  by_cases hx : x = 0
  · obtain ⟨_, hk3, hd, heb⟩ := hsame hx
    subst hx
    have hL : Hid (tab 68 (ebyte k v d) = L) := heb
    clear hsame heb
    generalize hSL : strOfNums L = S at *
    have HSL : Hid (strOfNums L = S) := hSL
    clear hSL
    go_wp2_with (first | (guard_target =~ wpList _ _ _ (Oper.mk _ (Op.store 30 _ _) _ _ _ _ :: _) _ _; refine wpList_store_run rfl 30 (.tmp 13) (.tmp 62) rfl (by rfl) (by rfl) hst9 ?_) | (guard_target =~ wpList _ _ _ (Oper.mk _ (Op.load 30 (.tmp 11)) _ _ _ _ :: _) _ _; refine wpList_load_run' rfl 30 (.tmp 11) rfl (by rfl) hld1 ?_) | (guard_target =~ wpList _ _ _ (Oper.mk _ (Op.load 30 (.tmp 13)) _ _ _ _ :: _) _ _; refine wpList_load_run' rfl 30 (.tmp 13) rfl (by rfl) hld2 ?_) | (guard_target =~ wpList _ _ _ (Oper.mk _ (Op.binOp .neq 30 _ _ _) _ _ _ _ :: _) _ _; refine wpList_neq_page rfl (.tmp 68) (.tmp 69) rfl (by rfl) (by rfl) (r := false) (by rw [hsp]; rfl) ?_) | (go_at_call 11; refine hcl.mono ?_; rintro e w' ⟨rfl, rfl⟩) | (go_at_call 17; refine hcr.mono ?_; rintro e w' ⟨rfl, rfl⟩))
    refine (enc_any k v d _ hk3 hd).mono ?_
    rintro e w10 ⟨g10, rfl, hg10, hb10, hk10⟩
    have htd := (hb10.page_row hk3 hd).text
    rw [hL.out, HSL.out] at htd
    have hta2 := (hra9.keep hk10 (fun _ _ _ e => e)).text
    rw [HSL.out] at hta2
    have HKe := HKw.trans hk10
    clear hb10 hk10 hcl hcr hld1 hld2 hst9 hta htc hra9
    go_wp2_with fail
    go_ret
    exact ⟨ret_b (by simp), HKe⟩
  · generalize strOfNums L = S at *
    go_wp2_with (first | (guard_target =~ wpList _ _ _ (Oper.mk _ (Op.store 30 _ _) _ _ _ _ :: _) _ _; refine wpList_store_run rfl 30 (.tmp 13) (.tmp 62) rfl (by rfl) (by rfl) hst9 ?_) | (guard_target =~ wpList _ _ _ (Oper.mk _ (Op.load 30 (.tmp 11)) _ _ _ _ :: _) _ _; refine wpList_load_run' rfl 30 (.tmp 11) rfl (by rfl) hld1 ?_) | (guard_target =~ wpList _ _ _ (Oper.mk _ (Op.load 30 (.tmp 13)) _ _ _ _ :: _) _ _; refine wpList_load_run' rfl 30 (.tmp 13) rfl (by rfl) hld2 ?_) | (guard_target =~ wpList _ _ _ (Oper.mk _ (Op.binOp .neq 30 _ _ _) _ _ _ _ :: _) _ _; refine wpList_neq_page rfl (.tmp 68) (.tmp 69) rfl (by rfl) (by rfl) (r := false) (by rw [hsp]; rfl) ?_) | (go_at_call 11; refine hcl.mono ?_; rintro e w' ⟨rfl, rfl⟩) | (go_at_call 17; refine hcr.mono ?_; rintro e w' ⟨rfl, rfl⟩))
    go_ret
    exact ⟨rfl, HKw⟩

set_option maxHeartbeats 2000000 in
theorem bytes_t_lo (a : Option Addr) (len cap : Nat) (l : List Int) (z : Int) (ch : Int) (w : World) (hr : Row w a len cap l) (hlen : len ≤ 140737488351232) (h60 : 60 ≤ len) (hz : z < 0) :
    Calls Try.prog 5 #[.slice a len cap, .bool true, .int .i64 z, .int .u8 ch] w fun e w' => e = .returned (.bool true) ∧ Keep (fun _ => False) w w' := by
  go_enter Try.func5, Try.ntmps5
  go_wp2_with fail
  refine (awake_any _).mono ?_
  rintro e w1 ⟨rfl, hk1⟩
  obtain ⟨ga, capa, w2, hrun2, hG2⟩ := (Gr.start w1).app rfl ((hr.keep hk1 (fun _ _ _ e => e)).keep (((Keep.refl (fun _ => False) w1)).alloc (.cells #[] 5)) (fun _ _ _ e => e)) (by simp; omega)
  simp only [List.length_nil, Nat.zero_add] at hrun2
  rw [List.nil_append] at hG2
  have hll : l.length = len := hr.1
  have hd1 : (len : Int) ≤ 140737488351232 := by omega
  have h60' : decide ((60 : Int) ≤ len) = true := by simp; omega
  have hr2 := hr.keep (hk1.trans hG2.keep) (fun _ _ _ e => e)
  obtain ⟨b, o, rfl, _⟩ : ∃ b o, a = some ⟨b, o, none⟩ ∧ True := by
    rcases hr.2.2.2.2 with h0 | ⟨b, o, e, _⟩
    · omega
    · exact ⟨b, o, e, trivial⟩
  have hfit := fit_any hr2 h60
  have hlf : (fitted l).length = 68 := by
    unfold fitted bytes4
    simp [hll]; omega
  go_wp2_with (at_builtin; refine wpList_append_run rfl (.tmp 18) (.tmp 19) 23 rfl (by rfl) (by rfl) hrun2 ?_)
  refine hfit.mono ?_
  rintro e w3 ⟨g3, cap3, rfl, hGf⟩
  have hG3 : Gr w1 w3 g3 cap3 (fitted l) := ⟨hGf.row, hGf.free, by have := hGf.new; have := hG2.keep.size; omega, hG2.keep.trans hGf.keep⟩
  generalize fitted l = lf at hG3 hlf
  clear hfit hrun2 hG2 hGf hr2 hr hll
  have hzl : decide (0 ≤ z) = false := by simpa using hz
  have hG := hG3
  have hln := hlf
  obtain ⟨L, hLL⟩ : ∃ L, L = lf := ⟨_, rfl⟩
  subst hLL
  obtain ⟨W, hW⟩ : ∃ W, W = w3 := ⟨_, rfl⟩
  subst hW
  clear hG3 hlf
  have hL4 : 68 ≤ 140737488351232 := by omega
  obtain ⟨htx, g4, cap4, w4, hcv4, hG4⟩ := hG.text hln hL4
  have hK5 : Keep (fun _ => False) w4 (w4.alloc (.cells #[.int .u8 9] 5)) := (Keep.refl _ _).alloc _
  obtain ⟨g5, cap5, w5, hrun5, hG5⟩ := (hG4.more hK5).app hln (row_new w4 [9] (0, 0) w4.heap.size 1 rfl (by simp) (by omega) (by decide)) (by simp)
  simp only [List.length_cons, List.length_nil, Nat.zero_add] at hrun5
  have hbL : ∀ i, 0 ≤ L.getD i 0 ∧ L.getD i 0 ≤ 255 := getD_bound hG.row.2.2.2.1
  have hLt : tab 68 (fun i => L.getD i 0) = L := by rw [← hln]; exact list_tab L
  have hrc : Row w5 (some ⟨g5, 0, none⟩) 68 cap5 L := Row.init (m := [9]) (by
    have := hG5.row
    rw [List.length_append, hln] at this
    exact this)
  have hcap5 := hrc.2.1
  have hcap5' := hrc.2.2.1
  have hra : Row W (some ⟨g3, 0, none⟩) 68 cap3 L := by have := hG.row; rw [hln] at this; exact this
  obtain ⟨k, v, d, hpg, hprop⟩ := dpage_page (n := 68) hbL
  obtain ⟨x, hxd⟩ : ∃ x, dcode 68 (fun i => L.getD i 0) = x := ⟨_, rfl⟩
  have hdec := dec_any (c := fun i => L.getD i 0) (n := 68) (by rw [hLt]; exact hrc)
  have hrd : ∀ w', Row w' (some ⟨g3, 0, none⟩) 68 cap3 L → Calls Try.prog 16 #[.slice (some ⟨g3, 0, none⟩) 68 cap3] w' fun e w'' => e = .returned (.tuple #[.agg (pageA k v d), .int .i64 x]) ∧ Keep (fun _ => False) w' w'' := fun w' h => by
    have := rdec_any (c := fun i => L.getD i 0) (n := 68) (by rw [hLt]; exact h)
    rw [hpg, hxd] at this
    exact this
  rw [hpg, hxd] at hdec
  rw [hxd] at hprop
  have hn5 : (68 : Int) ≤ cap5 := by omega
  have hsame : x = 0 → 68 = 68 ∧ (1 ≤ k ∧ k ≤ 3) ∧ (∀ i, 0 ≤ d i ∧ d i ≤ 255) ∧ tab 68 (ebyte k v d) = L := fun e => by
    obtain ⟨e1, e2, e3, e4⟩ := hprop e
    clear e1
    exact ⟨rfl, e2, e3, (tab_congr (fun i hi => e4 i hi)).trans hLt⟩
  have hbb := hG.row.2.2.2.1
  clear hprop hpg hxd hLt hbL
  go_wp2_with (at_builtin; refine wpList_append_run rfl (.tmp 48) (.tmp 49) 23 rfl (by rfl) (by rfl) hrun5 ?_)
  refine hdec.mono ?_
  rintro e w6 ⟨rfl, hk6⟩
  obtain ⟨w7, hst7, hb7, hk7⟩ := new_page w6 k v d
  have hKc : Keep (fun _ => False) w5 w7 := hk6.trans hk7
  have hKa : Keep (fun _ => False) W w7 := hG5.keep.trans hKc
  have hrd' := hrd w7 (hra.keep hKa (fun _ _ _ e => e))
  clear hdec htx hcv4 hrun5 hrd
  go_wp2_with (refine wpList_store_run rfl 30 (.tmp 11) (.tmp 57) rfl (by rfl) (by rfl) hst7 ?_)
  refine hrd'.mono ?_
  rintro e w8 ⟨rfl, hk8⟩
  obtain ⟨w9, hst9, hb9, hk9⟩ := new_page w8 k v d
  have hK89 := hk8.trans hk9
  have hld1 := loadAt_page (hb7.keep hK89 (fun e => e))
  have hld2 := loadAt_page hb9
  have hsp := samePage_self k v d
  have hrc9 := (hrc.keep hKc (fun _ _ _ e => e)).keep hK89 (fun _ _ _ e => e)
  have hra9 := (hra.keep hKa (fun _ _ _ e => e)).keep hK89 (fun _ _ _ e => e)
  have hG9 := (hG5.more hKc).more hK89
  have hcl := clean_any hrc9
  have hcr := rclean_any hra9
  have htc := (hG9.row).text
  rw [List.length_append, hln, str_nine] at htc
  have hta := hra9.text
  have hno : ¬ 9223372036854775807 < (strOfNums L).size + 1 := by rw [strOfNums_size]; omega
  have HKw : Keep (fun _ => False) w w9 := hk1.trans (hG.keep.trans (hKa.trans hK89))
  simp only [List.length_cons, List.length_nil, Nat.zero_add] at htc
  clear hrd' hst7 hk6 hk7 hk8 hk9 hKc hKa hK89 hb9 hb7 hG5 hG4 hG9 hrc hra hrc9
  generalize cleanB L = cb at hcl hcr
  by_cases hx : x = 0
  · obtain ⟨_, hk3, hd, heb⟩ := hsame hx
    subst hx
    have hL : Hid (tab 68 (ebyte k v d) = L) := heb
    clear hsame heb
    generalize hSL : strOfNums L = S at *
    have HSL : Hid (strOfNums L = S) := hSL
    clear hSL
    go_wp2_with (first | (guard_target =~ wpList _ _ _ (Oper.mk _ (Op.store 30 _ _) _ _ _ _ :: _) _ _; refine wpList_store_run rfl 30 (.tmp 13) (.tmp 62) rfl (by rfl) (by rfl) hst9 ?_) | (guard_target =~ wpList _ _ _ (Oper.mk _ (Op.load 30 (.tmp 11)) _ _ _ _ :: _) _ _; refine wpList_load_run' rfl 30 (.tmp 11) rfl (by rfl) hld1 ?_) | (guard_target =~ wpList _ _ _ (Oper.mk _ (Op.load 30 (.tmp 13)) _ _ _ _ :: _) _ _; refine wpList_load_run' rfl 30 (.tmp 13) rfl (by rfl) hld2 ?_) | (guard_target =~ wpList _ _ _ (Oper.mk _ (Op.binOp .neq 30 _ _ _) _ _ _ _ :: _) _ _; refine wpList_neq_page rfl (.tmp 68) (.tmp 69) rfl (by rfl) (by rfl) (r := false) (by rw [hsp]; rfl) ?_) | (go_at_call 11; refine hcl.mono ?_; rintro e w' ⟨rfl, rfl⟩) | (go_at_call 17; refine hcr.mono ?_; rintro e w' ⟨rfl, rfl⟩))
    refine (enc_any k v d _ hk3 hd).mono ?_
    rintro e w10 ⟨g10, rfl, hg10, hb10, hk10⟩
    have htd := (hb10.page_row hk3 hd).text
    rw [hL.out, HSL.out] at htd
    have hta2 := (hra9.keep hk10 (fun _ _ _ e => e)).text
    rw [HSL.out] at hta2
    have HKe := HKw.trans hk10
    clear hb10 hk10 hcl hcr hld1 hld2 hst9 hta htc hra9
    go_wp2_with fail
    go_ret
    exact ⟨ret_b (by simp), HKe⟩
  · generalize strOfNums L = S at *
    go_wp2_with (first | (guard_target =~ wpList _ _ _ (Oper.mk _ (Op.store 30 _ _) _ _ _ _ :: _) _ _; refine wpList_store_run rfl 30 (.tmp 13) (.tmp 62) rfl (by rfl) (by rfl) hst9 ?_) | (guard_target =~ wpList _ _ _ (Oper.mk _ (Op.load 30 (.tmp 11)) _ _ _ _ :: _) _ _; refine wpList_load_run' rfl 30 (.tmp 11) rfl (by rfl) hld1 ?_) | (guard_target =~ wpList _ _ _ (Oper.mk _ (Op.load 30 (.tmp 13)) _ _ _ _ :: _) _ _; refine wpList_load_run' rfl 30 (.tmp 13) rfl (by rfl) hld2 ?_) | (guard_target =~ wpList _ _ _ (Oper.mk _ (Op.binOp .neq 30 _ _ _) _ _ _ _ :: _) _ _; refine wpList_neq_page rfl (.tmp 68) (.tmp 69) rfl (by rfl) (by rfl) (r := false) (by rw [hsp]; rfl) ?_) | (go_at_call 11; refine hcl.mono ?_; rintro e w' ⟨rfl, rfl⟩) | (go_at_call 17; refine hcr.mono ?_; rintro e w' ⟨rfl, rfl⟩))
    go_ret
    exact ⟨rfl, HKw⟩

set_option maxHeartbeats 2000000 in
theorem bytes_t_hi (a : Option Addr) (len cap : Nat) (l : List Int) (z : Int) (ch : Int) (w : World) (hr : Row w a len cap l) (hlen : len ≤ 140737488351232) (h60 : 60 ≤ len) (hz0 : 0 ≤ z) (hz : (68 : Int) ≤ z) :
    Calls Try.prog 5 #[.slice a len cap, .bool true, .int .i64 z, .int .u8 ch] w fun e w' => e = .returned (.bool true) ∧ Keep (fun _ => False) w w' := by
  go_enter Try.func5, Try.ntmps5
  go_wp2_with fail
  refine (awake_any _).mono ?_
  rintro e w1 ⟨rfl, hk1⟩
  obtain ⟨ga, capa, w2, hrun2, hG2⟩ := (Gr.start w1).app rfl ((hr.keep hk1 (fun _ _ _ e => e)).keep (((Keep.refl (fun _ => False) w1)).alloc (.cells #[] 5)) (fun _ _ _ e => e)) (by simp; omega)
  simp only [List.length_nil, Nat.zero_add] at hrun2
  rw [List.nil_append] at hG2
  have hll : l.length = len := hr.1
  have hd1 : (len : Int) ≤ 140737488351232 := by omega
  have h60' : decide ((60 : Int) ≤ len) = true := by simp; omega
  have hr2 := hr.keep (hk1.trans hG2.keep) (fun _ _ _ e => e)
  obtain ⟨b, o, rfl, _⟩ : ∃ b o, a = some ⟨b, o, none⟩ ∧ True := by
    rcases hr.2.2.2.2 with h0 | ⟨b, o, e, _⟩
    · omega
    · exact ⟨b, o, e, trivial⟩
  have hfit := fit_any hr2 h60
  have hlf : (fitted l).length = 68 := by
    unfold fitted bytes4
    simp [hll]; omega
  go_wp2_with (at_builtin; refine wpList_append_run rfl (.tmp 18) (.tmp 19) 23 rfl (by rfl) (by rfl) hrun2 ?_)
  refine hfit.mono ?_
  rintro e w3 ⟨g3, cap3, rfl, hGf⟩
  have hG3 : Gr w1 w3 g3 cap3 (fitted l) := ⟨hGf.row, hGf.free, by have := hGf.new; have := hG2.keep.size; omega, hG2.keep.trans hGf.keep⟩
  generalize fitted l = lf at hG3 hlf
  clear hfit hrun2 hG2 hGf hr2 hr hll
  have hzl : decide (z < (68 : Int)) = false := by simpa using hz
  have hG := hG3
  have hln := hlf
  obtain ⟨L, hLL⟩ : ∃ L, L = lf := ⟨_, rfl⟩
  subst hLL
  obtain ⟨W, hW⟩ : ∃ W, W = w3 := ⟨_, rfl⟩
  subst hW
  clear hG3 hlf
  have hL4 : 68 ≤ 140737488351232 := by omega
  obtain ⟨htx, g4, cap4, w4, hcv4, hG4⟩ := hG.text hln hL4
  have hK5 : Keep (fun _ => False) w4 (w4.alloc (.cells #[.int .u8 9] 5)) := (Keep.refl _ _).alloc _
  obtain ⟨g5, cap5, w5, hrun5, hG5⟩ := (hG4.more hK5).app hln (row_new w4 [9] (0, 0) w4.heap.size 1 rfl (by simp) (by omega) (by decide)) (by simp)
  simp only [List.length_cons, List.length_nil, Nat.zero_add] at hrun5
  have hbL : ∀ i, 0 ≤ L.getD i 0 ∧ L.getD i 0 ≤ 255 := getD_bound hG.row.2.2.2.1
  have hLt : tab 68 (fun i => L.getD i 0) = L := by rw [← hln]; exact list_tab L
  have hrc : Row w5 (some ⟨g5, 0, none⟩) 68 cap5 L := Row.init (m := [9]) (by
    have := hG5.row
    rw [List.length_append, hln] at this
    exact this)
  have hcap5 := hrc.2.1
  have hcap5' := hrc.2.2.1
  have hra : Row W (some ⟨g3, 0, none⟩) 68 cap3 L := by have := hG.row; rw [hln] at this; exact this
  obtain ⟨k, v, d, hpg, hprop⟩ := dpage_page (n := 68) hbL
  obtain ⟨x, hxd⟩ : ∃ x, dcode 68 (fun i => L.getD i 0) = x := ⟨_, rfl⟩
  have hdec := dec_any (c := fun i => L.getD i 0) (n := 68) (by rw [hLt]; exact hrc)
  have hrd : ∀ w', Row w' (some ⟨g3, 0, none⟩) 68 cap3 L → Calls Try.prog 16 #[.slice (some ⟨g3, 0, none⟩) 68 cap3] w' fun e w'' => e = .returned (.tuple #[.agg (pageA k v d), .int .i64 x]) ∧ Keep (fun _ => False) w' w'' := fun w' h => by
    have := rdec_any (c := fun i => L.getD i 0) (n := 68) (by rw [hLt]; exact h)
    rw [hpg, hxd] at this
    exact this
  rw [hpg, hxd] at hdec
  rw [hxd] at hprop
  have hn5 : (68 : Int) ≤ cap5 := by omega
  have hsame : x = 0 → 68 = 68 ∧ (1 ≤ k ∧ k ≤ 3) ∧ (∀ i, 0 ≤ d i ∧ d i ≤ 255) ∧ tab 68 (ebyte k v d) = L := fun e => by
    obtain ⟨e1, e2, e3, e4⟩ := hprop e
    clear e1
    exact ⟨rfl, e2, e3, (tab_congr (fun i hi => e4 i hi)).trans hLt⟩
  have hbb := hG.row.2.2.2.1
  clear hprop hpg hxd hLt hbL
  go_wp2_with (at_builtin; refine wpList_append_run rfl (.tmp 48) (.tmp 49) 23 rfl (by rfl) (by rfl) hrun5 ?_)
  refine hdec.mono ?_
  rintro e w6 ⟨rfl, hk6⟩
  obtain ⟨w7, hst7, hb7, hk7⟩ := new_page w6 k v d
  have hKc : Keep (fun _ => False) w5 w7 := hk6.trans hk7
  have hKa : Keep (fun _ => False) W w7 := hG5.keep.trans hKc
  have hrd' := hrd w7 (hra.keep hKa (fun _ _ _ e => e))
  clear hdec htx hcv4 hrun5 hrd
  go_wp2_with (refine wpList_store_run rfl 30 (.tmp 11) (.tmp 57) rfl (by rfl) (by rfl) hst7 ?_)
  refine hrd'.mono ?_
  rintro e w8 ⟨rfl, hk8⟩
  obtain ⟨w9, hst9, hb9, hk9⟩ := new_page w8 k v d
  have hK89 := hk8.trans hk9
  have hld1 := loadAt_page (hb7.keep hK89 (fun e => e))
  have hld2 := loadAt_page hb9
  have hsp := samePage_self k v d
  have hrc9 := (hrc.keep hKc (fun _ _ _ e => e)).keep hK89 (fun _ _ _ e => e)
  have hra9 := (hra.keep hKa (fun _ _ _ e => e)).keep hK89 (fun _ _ _ e => e)
  have hG9 := (hG5.more hKc).more hK89
  have hcl := clean_any hrc9
  have hcr := rclean_any hra9
  have htc := (hG9.row).text
  rw [List.length_append, hln, str_nine] at htc
  have hta := hra9.text
  have hno : ¬ 9223372036854775807 < (strOfNums L).size + 1 := by rw [strOfNums_size]; omega
  have HKw : Keep (fun _ => False) w w9 := hk1.trans (hG.keep.trans (hKa.trans hK89))
  simp only [List.length_cons, List.length_nil, Nat.zero_add] at htc
  clear hrd' hst7 hk6 hk7 hk8 hk9 hKc hKa hK89 hb9 hb7 hG5 hG4 hG9 hrc hra hrc9
  generalize cleanB L = cb at hcl hcr
  by_cases hx : x = 0
  · obtain ⟨_, hk3, hd, heb⟩ := hsame hx
    subst hx
    have hL : Hid (tab 68 (ebyte k v d) = L) := heb
    clear hsame heb
    generalize hSL : strOfNums L = S at *
    have HSL : Hid (strOfNums L = S) := hSL
    clear hSL
    go_wp2_with (first | (guard_target =~ wpList _ _ _ (Oper.mk _ (Op.store 30 _ _) _ _ _ _ :: _) _ _; refine wpList_store_run rfl 30 (.tmp 13) (.tmp 62) rfl (by rfl) (by rfl) hst9 ?_) | (guard_target =~ wpList _ _ _ (Oper.mk _ (Op.load 30 (.tmp 11)) _ _ _ _ :: _) _ _; refine wpList_load_run' rfl 30 (.tmp 11) rfl (by rfl) hld1 ?_) | (guard_target =~ wpList _ _ _ (Oper.mk _ (Op.load 30 (.tmp 13)) _ _ _ _ :: _) _ _; refine wpList_load_run' rfl 30 (.tmp 13) rfl (by rfl) hld2 ?_) | (guard_target =~ wpList _ _ _ (Oper.mk _ (Op.binOp .neq 30 _ _ _) _ _ _ _ :: _) _ _; refine wpList_neq_page rfl (.tmp 68) (.tmp 69) rfl (by rfl) (by rfl) (r := false) (by rw [hsp]; rfl) ?_) | (go_at_call 11; refine hcl.mono ?_; rintro e w' ⟨rfl, rfl⟩) | (go_at_call 17; refine hcr.mono ?_; rintro e w' ⟨rfl, rfl⟩))
    refine (enc_any k v d _ hk3 hd).mono ?_
    rintro e w10 ⟨g10, rfl, hg10, hb10, hk10⟩
    have htd := (hb10.page_row hk3 hd).text
    rw [hL.out, HSL.out] at htd
    have hta2 := (hra9.keep hk10 (fun _ _ _ e => e)).text
    rw [HSL.out] at hta2
    have HKe := HKw.trans hk10
    clear hb10 hk10 hcl hcr hld1 hld2 hst9 hta htc hra9
    go_wp2_with fail
    go_ret
    exact ⟨ret_b (by simp), HKe⟩
  · generalize strOfNums L = S at *
    go_wp2_with (first | (guard_target =~ wpList _ _ _ (Oper.mk _ (Op.store 30 _ _) _ _ _ _ :: _) _ _; refine wpList_store_run rfl 30 (.tmp 13) (.tmp 62) rfl (by rfl) (by rfl) hst9 ?_) | (guard_target =~ wpList _ _ _ (Oper.mk _ (Op.load 30 (.tmp 11)) _ _ _ _ :: _) _ _; refine wpList_load_run' rfl 30 (.tmp 11) rfl (by rfl) hld1 ?_) | (guard_target =~ wpList _ _ _ (Oper.mk _ (Op.load 30 (.tmp 13)) _ _ _ _ :: _) _ _; refine wpList_load_run' rfl 30 (.tmp 13) rfl (by rfl) hld2 ?_) | (guard_target =~ wpList _ _ _ (Oper.mk _ (Op.binOp .neq 30 _ _ _) _ _ _ _ :: _) _ _; refine wpList_neq_page rfl (.tmp 68) (.tmp 69) rfl (by rfl) (by rfl) (r := false) (by rw [hsp]; rfl) ?_) | (go_at_call 11; refine hcl.mono ?_; rintro e w' ⟨rfl, rfl⟩) | (go_at_call 17; refine hcr.mono ?_; rintro e w' ⟨rfl, rfl⟩))
    go_ret
    exact ⟨rfl, HKw⟩
end Tg
end Go.Proofs.Ytgohmjidbbecpaa
