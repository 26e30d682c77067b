/-
  Any bytes, not made fit: both Decodes alike, and back.
-/
import Derived.Test.YtgohmjidbbecpaaRefC
namespace Go.Proofs.Ytgohmjidbbecpaa
open Go.ChangeShapes Go.WideShapes Go.ChangeAt Go.RowKit
namespace Tg
open Crc
theorem list_tab (l : List Int) : tab l.length (fun i => l.getD i 0) = l := by
  apply List.ext_getElem?
  intro i
  simp only [tab, List.getElem?_map]
  by_cases h : i < l.length
  · simp [List.getD, h]
  · simp [h]
theorem dpage_page {n : Nat} {c : Nat → Int} (hb : ∀ i, 0 ≤ c i ∧ c i ≤ 255) : ∃ k v d, dpage n c = pageA k v d ∧ (dcode n c = 0 → n = 68 ∧ (1 ≤ k ∧ k ≤ 3) ∧ (∀ i, 0 ≤ d i ∧ d i ≤ 255) ∧ ∀ i, i < 68 → ebyte k v d i = c i) := by
  unfold dpage
  by_cases h : dcode n c = 0
  · rw [if_pos h]
    obtain rfl := dcode_68 h
    refine ⟨_, _, _, rfl, fun _ => ⟨rfl, ?_, fun i => hb _, fun i hi => bytes_back (fun i _ => hb i) h hi⟩⟩
    unfold dcode at h
    rw [if_neg (fun h => h rfl)] at h
    by_cases h1 : cleanB (tab 68 c) = true
    · rw [if_pos h1] at h; omega
    rw [if_neg h1] at h
    by_cases h2 : c 64 = 68 ∧ c 65 = 79 ∧ c 66 = 78 ∧ c 67 = 69
    rotate_left
    · rw [if_pos h2] at h; omega
    rw [if_neg (not_not_intro h2)] at h
    by_cases h3 : num (fun i => c (60 + i)) 4 = val (more 0#32 (tab 60 c))
    rotate_left
    · rw [if_pos h3] at h; omega
    rw [if_neg (not_not_intro h3)] at h
    by_cases h4 : 1 ≤ c 0 ∧ c 0 ≤ 3 ∧ c 1 = 0 ∧ c 2 = 0 ∧ c 3 = 0
    · exact ⟨h4.1, h4.2.1⟩
    · rw [if_pos h4] at h; omega
  · rw [if_neg h]
    exact ⟨0, fun _ => 0, fun _ => 0, rfl, fun e => absurd e h⟩
theorem samePage_self (k : Int) (v d : Nat → Int) : samePage k k v v d d = true := (samePage_iff k k v v d d).2 rfl
theorem str_nine (l : List Int) : strOfNums (l ++ [9]) = strOfNums l ++ { data := #[9] } := by
  apply ByteArray.ext
  simp [strOfNums, ByteArray.data_append]
/-- One byte of the row is stored. -/
theorem Gr.set {w0 w : World} {g cap : Nat} {l : List Int} (h : Gr w0 w g cap l) {i : Nat} (hi : i < l.length) {n : Int} (hn : 0 ≤ n ∧ n ≤ 255) : Gr w0 (w.setCell ⟨g, i, none⟩ (.int .u8 n)) g cap (l.set i n) :=
  ⟨by rw [List.length_set]; exact h.row.set hi hn, h.free.set _ _, h.new, h.keep.setCell (Or.inr h.new) _⟩
theorem xor8_bd (a b : Int) : 0 ≤ bits .xor .u8 a b ∧ bits .xor .u8 a b ≤ 255 := by
  show 0 ≤ IntKind.u8.wrap _ ∧ IntKind.u8.wrap _ ≤ 255
  rw [IntKind.wrap_u8]; omega

theorem wpList_load_run' {P : Program} {w : World} {ops : Array Oper} {rest : List Oper} {o : Oper} {a : Act} {Q : Exit → Act → World → Prop}
    (hw : Region.wanted o (yielded ops a.tmps) = true) (t : TypeId) (x : Operand) (hop : o.op = Op.load t x) {v1 v' : Value} {w' : World} (hx : a.eval x = v1) (hrun : (Instr.loadAt t v1).run P w = .ok v' w')
    (hK : wpList P ops Q rest (a.put o.dst v') w') : wpList P ops Q (o :: rest) a w := by
  refine BigFrame.wpList_want hw fun K hK' => ?_
  unfold Oper.wp
  simp [execOp, hop, hx, hrun, Result.andThen]
  exact hK' _ _ hK
theorem Gr.text {w0 w : World} {g cap n : Nat} {l : List Int} (h : Gr w0 w g cap l) (hn : l.length = n) (hl : n ≤ 140737488351232) :
    (convert 23 9 (.slice (some ⟨g, 0, none⟩) n cap)).run Try.prog w = .ok (.string (strOfNums l)) w ∧
    ∃ g4 cap4 w4, (convert 9 23 (.string (strOfNums l))).run Try.prog w = .ok (.slice (some ⟨g4, 0, none⟩) n cap4) w4 ∧ Gr w w4 g4 cap4 l := by
  subst hn
  refine ⟨h.row.text, ?_⟩
  obtain ⟨cap4, w4, hcv, hr, hb, hs, hf⟩ := text_row w l h.row.2.2.2.1 (by omega)
  exact ⟨_, cap4, w4, hcv, hr, hf, Nat.le_refl _, Keep.of_below hb⟩
theorem guard30 : Try.prog.eqGuardType Try.prog.depth 30 = false := by kernel_rfl
/-- The walk's step where two pages are held against each other. -/
theorem wpList_neq_page {w : World} {ops : Array Oper} {rest : List Oper} {o : Oper} {a : Act} {Q : Exit → Act → World → Prop}
    (hw : Region.wanted o (yielded ops a.tmps) = true) (x y : Operand) (hop : o.op = Op.binOp .neq 30 x y 30) {k k' : Int} {v v' d d' : Nat → Int} (hx : a.eval x = .agg (pageA k v d)) (hy : a.eval y = .agg (pageA k' v' d'))
    {r : Bool} (hr : (!samePage k k' v v' d d') = r) (hK : wpList Try.prog ops Q rest (a.put o.dst (.bool r)) w) : wpList Try.prog ops Q (o :: rest) a w := by
  subst hr
  refine BigFrame.wpList_want hw fun K hK' => ?_
  unfold Oper.wp
  have h1 := run_eqGuard_agg (P := Try.prog) w .neq 30 x y (pageA k v d) (pageA k' v' d') guard30
  have h2 := run_neq_struct (P := Try.prog) w 30 (pageA k v d) (pageA k' v' d')
  rw [eq30] at h2
  simp only [Result.andThen_ok] at h2
  simp only [execOp, hop, hx, hy]
  simp only [Sem.run_bind, h1, h2, Result.andThen_ok, Sem.run_pure]
  exact hK' _ _ hK

set_option maxHeartbeats 2000000 in
theorem bytes_f_in (a : Option Addr) (len cap : Nat) (l : List Int) (p : Nat) (ch : Int) (w : World) (hr : Row w a len cap l) (hlen : len ≤ 140737488351232)  (hp : p < len) :
    Calls Try.prog 5 #[.slice a len cap, .bool false, .int .i64 p, .int .u8 ch] w fun e w' => e = .returned (.bool true) ∧ Keep (fun _ => False) w w' := by
  go_enter Try.func5, Try.ntmps5
  go_wp2_with fail
  refine (awake_any _).mono ?_
  rintro e w1 ⟨rfl, hk1⟩
  obtain ⟨g3, cap3, w2, hrun2, hG2⟩ := (Gr.start w1).app rfl ((hr.keep hk1 (fun _ _ _ e => e)).keep (((Keep.refl (fun _ => False) w1)).alloc (.cells #[] 5)) (fun _ _ _ e => e)) (by simp; omega)
  simp only [List.length_nil, Nat.zero_add] at hrun2
  rw [List.nil_append] at hG2
  have hll : l.length = len := hr.1
  have hd1 : (len : Int) ≤ 140737488351232 := by omega
  have hdp : (p : Int) < len := by omega
  have hcp := hG2.row.cellAt (i := p) (by omega)
  have hfp := (hG2.free p (by have := hG2.row.2.1; omega)).2
  have hG := hG2.set (i := p) (by omega) (xor8_bd (l.getD p 0) ch)
  have hln : (l.set p (bits .xor .u8 (l.getD p 0) ch)).length = len := by rw [List.length_set]; exact hll
  generalize l.getD p 0 = z at *
  generalize l.set p (bits .xor .u8 z ch) = L at hG hln
  obtain ⟨W, hW⟩ : ∃ W, w2.setCell ⟨g3, p, none⟩ (.int .u8 (bits .xor .u8 z ch)) = W := ⟨_, rfl⟩
  rw [hW] at hG
  obtain ⟨n, hnn⟩ : ∃ n, n = len := ⟨_, rfl⟩
  subst hnn
  have hL4 := hlen
  clear hr hG2 hll
  obtain ⟨htx, g4, cap4, w4, hcv4, hG4⟩ := hG.text hln hL4
  have hK5 : Keep (fun _ => False) w4 (w4.alloc (.cells #[.int .u8 9] 5)) := (Keep.refl _ _).alloc _
  obtain ⟨g5, cap5, w5, hrun5, hG5⟩ := (hG4.more hK5).app hln (row_new w4 [9] (0, 0) w4.heap.size 1 rfl (by simp) (by omega) (by decide)) (by simp; omega)
  simp only [List.length_cons, List.length_nil, Nat.zero_add] at hrun5
  have hbL : ∀ i, 0 ≤ L.getD i 0 ∧ L.getD i 0 ≤ 255 := getD_bound hG.row.2.2.2.1
  have hLt : tab n (fun i => L.getD i 0) = L := by rw [← hln]; exact list_tab L
  have hrc : Row w5 (some ⟨g5, 0, none⟩) n cap5 L := Row.init (m := [9]) (by
    have := hG5.row
    rw [List.length_append, hln] at this
    exact this)
  have hcap5 := hrc.2.1
  have hcap5' := hrc.2.2.1
  have hra : Row W (some ⟨g3, 0, none⟩) n cap3 L := by have := hG.row; rw [hln] at this; exact this
  obtain ⟨k, v, d, hpg, hprop⟩ := dpage_page (n := n) hbL
  obtain ⟨x, hxd⟩ : ∃ x, dcode n (fun i => L.getD i 0) = x := ⟨_, rfl⟩
  have hdec := dec_any (c := fun i => L.getD i 0) (n := n) (by rw [hLt]; exact hrc)
  have hrd : ∀ w', Row w' (some ⟨g3, 0, none⟩) n cap3 L → Calls Try.prog 16 #[.slice (some ⟨g3, 0, none⟩) n cap3] w' fun e w'' => e = .returned (.tuple #[.agg (pageA k v d), .int .i64 x]) ∧ Keep (fun _ => False) w' w'' := fun w' h => by
    have := rdec_any (c := fun i => L.getD i 0) (n := n) (by rw [hLt]; exact h)
    rw [hpg, hxd] at this
    exact this
  rw [hpg, hxd] at hdec
  rw [hxd] at hprop
  have hn5 : (n : Int) ≤ cap5 := by omega
  have hsame : x = 0 → n = 68 ∧ (1 ≤ k ∧ k ≤ 3) ∧ (∀ i, 0 ≤ d i ∧ d i ≤ 255) ∧ tab 68 (ebyte k v d) = L := fun e => by
    obtain ⟨e1, e2, e3, e4⟩ := hprop e
    subst e1
    exact ⟨rfl, e2, e3, (tab_congr (fun i hi => e4 i hi)).trans hLt⟩
  have hbb := hG.row.2.2.2.1
  clear hprop hpg hxd hLt hbL
  go_wp2_with (at_builtin; first | (guard_target =~ wpList _ _ _ (Oper.mk _ (Op.call { callee := _, args := #[.tmp 18, .tmp 19], argTypes := _ }) _ _ _ _ :: _) _ _; refine wpList_append_run rfl (.tmp 18) (.tmp 19) 23 rfl (by rfl) (by rfl) hrun2 ?_) | refine wpList_append_run rfl (.tmp 48) (.tmp 49) 23 rfl (by rfl) (by rfl) hrun5 ?_)
  refine hdec.mono ?_
  rintro e w6 ⟨rfl, hk6⟩
  obtain ⟨w7, hst7, hb7, hk7⟩ := new_page w6 k v d
  have hKc : Keep (fun _ => False) w5 w7 := hk6.trans hk7
  have hKa : Keep (fun _ => False) W w7 := hG5.keep.trans hKc
  have hrd' := hrd w7 (hra.keep hKa (fun _ _ _ e => e))
  clear hdec htx hcv4 hrun5 hrd
  go_wp2_with (refine wpList_store_run rfl 30 (.tmp 11) (.tmp 57) rfl (by rfl) (by rfl) hst7 ?_)
  refine hrd'.mono ?_
  rintro e w8 ⟨rfl, hk8⟩
  obtain ⟨w9, hst9, hb9, hk9⟩ := new_page w8 k v d
  have hK89 := hk8.trans hk9
  have hld1 := loadAt_page (hb7.keep hK89 (fun e => e))
  have hld2 := loadAt_page hb9
  have hsp := samePage_self k v d
  have hrc9 := (hrc.keep hKc (fun _ _ _ e => e)).keep hK89 (fun _ _ _ e => e)
  have hra9 := (hra.keep hKa (fun _ _ _ e => e)).keep hK89 (fun _ _ _ e => e)
  have hG9 := (hG5.more hKc).more hK89
  have hcl := clean_any hrc9
  have hcr := rclean_any hra9
  have htc := (hG9.row).text
  rw [List.length_append, hln, str_nine] at htc
  have hta := hra9.text
  have hno : ¬ 9223372036854775807 < (strOfNums L).size + 1 := by rw [strOfNums_size]; omega
  have HKw : Keep (fun _ => False) w w9 := hk1.trans (hG.keep.trans (hKa.trans hK89))
  simp only [List.length_cons, List.length_nil, Nat.zero_add] at htc
  clear hrd' hst7 hk6 hk7 hk8 hk9 hKc hKa hK89 hb9 hb7 hG5 hG4 hG9 hrc hra hrc9
  generalize cleanB L = cb at hcl hcr
  by_cases hx : x = 0
  · obtain ⟨rfl, hk3, hd, heb⟩ := hsame hx
    subst hx
    have hL : Hid (tab 68 (ebyte k v d) = L) := heb
    clear hsame heb
    generalize hSL : strOfNums L = S at *
    have HSL : Hid (strOfNums L = S) := hSL
    clear hSL
    go_wp2_with (first | (guard_target =~ wpList _ _ _ (Oper.mk _ (Op.store 30 _ _) _ _ _ _ :: _) _ _; refine wpList_store_run rfl 30 (.tmp 13) (.tmp 62) rfl (by rfl) (by rfl) hst9 ?_) | (guard_target =~ wpList _ _ _ (Oper.mk _ (Op.load 30 (.tmp 11)) _ _ _ _ :: _) _ _; refine wpList_load_run' rfl 30 (.tmp 11) rfl (by rfl) hld1 ?_) | (guard_target =~ wpList _ _ _ (Oper.mk _ (Op.load 30 (.tmp 13)) _ _ _ _ :: _) _ _; refine wpList_load_run' rfl 30 (.tmp 13) rfl (by rfl) hld2 ?_) | (guard_target =~ wpList _ _ _ (Oper.mk _ (Op.binOp .neq 30 _ _ _) _ _ _ _ :: _) _ _; refine wpList_neq_page rfl (.tmp 68) (.tmp 69) rfl (by rfl) (by rfl) (r := false) (by rw [hsp]; rfl) ?_) | (go_at_call 11; refine hcl.mono ?_; rintro e w' ⟨rfl, rfl⟩) | (go_at_call 17; refine hcr.mono ?_; rintro e w' ⟨rfl, rfl⟩))
    refine (enc_any k v d _ hk3 hd).mono ?_
    rintro e w10 ⟨g10, rfl, hg10, hb10, hk10⟩
    have htd := (hb10.page_row hk3 hd).text
    rw [hL.out, HSL.out] at htd
    have hta2 := (hra9.keep hk10 (fun _ _ _ e => e)).text
    rw [HSL.out] at hta2
    have HKe := HKw.trans hk10
    clear hb10 hk10 hcl hcr hld1 hld2 hst9 hta htc hra9
    go_wp2_with fail
    go_ret
    exact ⟨ret_b (by simp), HKe⟩
  · generalize strOfNums L = S at *
    go_wp2_with (first | (guard_target =~ wpList _ _ _ (Oper.mk _ (Op.store 30 _ _) _ _ _ _ :: _) _ _; refine wpList_store_run rfl 30 (.tmp 13) (.tmp 62) rfl (by rfl) (by rfl) hst9 ?_) | (guard_target =~ wpList _ _ _ (Oper.mk _ (Op.load 30 (.tmp 11)) _ _ _ _ :: _) _ _; refine wpList_load_run' rfl 30 (.tmp 11) rfl (by rfl) hld1 ?_) | (guard_target =~ wpList _ _ _ (Oper.mk _ (Op.load 30 (.tmp 13)) _ _ _ _ :: _) _ _; refine wpList_load_run' rfl 30 (.tmp 13) rfl (by rfl) hld2 ?_) | (guard_target =~ wpList _ _ _ (Oper.mk _ (Op.binOp .neq 30 _ _ _) _ _ _ _ :: _) _ _; refine wpList_neq_page rfl (.tmp 68) (.tmp 69) rfl (by rfl) (by rfl) (r := false) (by rw [hsp]; rfl) ?_) | (go_at_call 11; refine hcl.mono ?_; rintro e w' ⟨rfl, rfl⟩) | (go_at_call 17; refine hcr.mono ?_; rintro e w' ⟨rfl, rfl⟩))
    go_ret
    exact ⟨rfl, HKw⟩

set_option maxHeartbeats 2000000 in
theorem bytes_f_lo (a : Option Addr) (len cap : Nat) (l : List Int) (z : Int) (ch : Int) (w : World) (hr : Row w a len cap l) (hlen : len ≤ 140737488351232)  (hz : z < 0) :
    Calls Try.prog 5 #[.slice a len cap, .bool false, .int .i64 z, .int .u8 ch] w fun e w' => e = .returned (.bool true) ∧ Keep (fun _ => False) w w' := by
  go_enter Try.func5, Try.ntmps5
  go_wp2_with fail
  refine (awake_any _).mono ?_
  rintro e w1 ⟨rfl, hk1⟩
  obtain ⟨g3, cap3, w2, hrun2, hG2⟩ := (Gr.start w1).app rfl ((hr.keep hk1 (fun _ _ _ e => e)).keep (((Keep.refl (fun _ => False) w1)).alloc (.cells #[] 5)) (fun _ _ _ e => e)) (by simp; omega)
  simp only [List.length_nil, Nat.zero_add] at hrun2
  rw [List.nil_append] at hG2
  have hll : l.length = len := hr.1
  have hd1 : (len : Int) ≤ 140737488351232 := by omega
  have hzl : decide (0 ≤ z) = false := by simpa using hz
  have hG := hG2
  have hln := hll
  obtain ⟨L, hLL⟩ : ∃ L, L = l := ⟨_, rfl⟩
  subst hLL
  obtain ⟨W, hW⟩ : ∃ W, W = w2 := ⟨_, rfl⟩
  subst hW
  obtain ⟨n, hnn⟩ : ∃ n, n = len := ⟨_, rfl⟩
  subst hnn
  have hL4 := hlen
  clear hr hG2 hll
  obtain ⟨htx, g4, cap4, w4, hcv4, hG4⟩ := hG.text hln hL4
  have hK5 : Keep (fun _ => False) w4 (w4.alloc (.cells #[.int .u8 9] 5)) := (Keep.refl _ _).alloc _
  obtain ⟨g5, cap5, w5, hrun5, hG5⟩ := (hG4.more hK5).app hln (row_new w4 [9] (0, 0) w4.heap.size 1 rfl (by simp) (by omega) (by decide)) (by simp; omega)
  simp only [List.length_cons, List.length_nil, Nat.zero_add] at hrun5
  have hbL : ∀ i, 0 ≤ L.getD i 0 ∧ L.getD i 0 ≤ 255 := getD_bound hG.row.2.2.2.1
  have hLt : tab n (fun i => L.getD i 0) = L := by rw [← hln]; exact list_tab L
  have hrc : Row w5 (some ⟨g5, 0, none⟩) n cap5 L := Row.init (m := [9]) (by
    have := hG5.row
    rw [List.length_append, hln] at this
    exact this)
  have hcap5 := hrc.2.1
  have hcap5' := hrc.2.2.1
  have hra : Row W (some ⟨g3, 0, none⟩) n cap3 L := by have := hG.row; rw [hln] at this; exact this
  obtain ⟨k, v, d, hpg, hprop⟩ := dpage_page (n := n) hbL
  obtain ⟨x, hxd⟩ : ∃ x, dcode n (fun i => L.getD i 0) = x := ⟨_, rfl⟩
  have hdec := dec_any (c := fun i => L.getD i 0) (n := n) (by rw [hLt]; exact hrc)
  have hrd : ∀ w', Row w' (some ⟨g3, 0, none⟩) n cap3 L → Calls Try.prog 16 #[.slice (some ⟨g3, 0, none⟩) n cap3] w' fun e w'' => e = .returned (.tuple #[.agg (pageA k v d), .int .i64 x]) ∧ Keep (fun _ => False) w' w'' := fun w' h => by
    have := rdec_any (c := fun i => L.getD i 0) (n := n) (by rw [hLt]; exact h)
    rw [hpg, hxd] at this
    exact this
  rw [hpg, hxd] at hdec
  rw [hxd] at hprop
  have hn5 : (n : Int) ≤ cap5 := by omega
  have hsame : x = 0 → n = 68 ∧ (1 ≤ k ∧ k ≤ 3) ∧ (∀ i, 0 ≤ d i ∧ d i ≤ 255) ∧ tab 68 (ebyte k v d) = L := fun e => by
    obtain ⟨e1, e2, e3, e4⟩ := hprop e
    subst e1
    exact ⟨rfl, e2, e3, (tab_congr (fun i hi => e4 i hi)).trans hLt⟩
  have hbb := hG.row.2.2.2.1
  clear hprop hpg hxd hLt hbL
  go_wp2_with (at_builtin; first | (guard_target =~ wpList _ _ _ (Oper.mk _ (Op.call { callee := _, args := #[.tmp 18, .tmp 19], argTypes := _ }) _ _ _ _ :: _) _ _; refine wpList_append_run rfl (.tmp 18) (.tmp 19) 23 rfl (by rfl) (by rfl) hrun2 ?_) | refine wpList_append_run rfl (.tmp 48) (.tmp 49) 23 rfl (by rfl) (by rfl) hrun5 ?_)
  refine hdec.mono ?_
  rintro e w6 ⟨rfl, hk6⟩
  obtain ⟨w7, hst7, hb7, hk7⟩ := new_page w6 k v d
  have hKc : Keep (fun _ => False) w5 w7 := hk6.trans hk7
  have hKa : Keep (fun _ => False) W w7 := hG5.keep.trans hKc
  have hrd' := hrd w7 (hra.keep hKa (fun _ _ _ e => e))
  clear hdec htx hcv4 hrun5 hrd
  go_wp2_with (refine wpList_store_run rfl 30 (.tmp 11) (.tmp 57) rfl (by rfl) (by rfl) hst7 ?_)
  refine hrd'.mono ?_
  rintro e w8 ⟨rfl, hk8⟩
  obtain ⟨w9, hst9, hb9, hk9⟩ := new_page w8 k v d
  have hK89 := hk8.trans hk9
  have hld1 := loadAt_page (hb7.keep hK89 (fun e => e))
  have hld2 := loadAt_page hb9
  have hsp := samePage_self k v d
  have hrc9 := (hrc.keep hKc (fun _ _ _ e => e)).keep hK89 (fun _ _ _ e => e)
  have hra9 := (hra.keep hKa (fun _ _ _ e => e)).keep hK89 (fun _ _ _ e => e)
  have hG9 := (hG5.more hKc).more hK89
  have hcl := clean_any hrc9
  have hcr := rclean_any hra9
  have htc := (hG9.row).text
  rw [List.length_append, hln, str_nine] at htc
  have hta := hra9.text
  have hno : ¬ 9223372036854775807 < (strOfNums L).size + 1 := by rw [strOfNums_size]; omega
  have HKw : Keep (fun _ => False) w w9 := hk1.trans (hG.keep.trans (hKa.trans hK89))
  simp only [List.length_cons, List.length_nil, Nat.zero_add] at htc
  clear hrd' hst7 hk6 hk7 hk8 hk9 hKc hKa hK89 hb9 hb7 hG5 hG4 hG9 hrc hra hrc9
  generalize cleanB L = cb at hcl hcr
  by_cases hx : x = 0
  · obtain ⟨rfl, hk3, hd, heb⟩ := hsame hx
    subst hx
    have hL : Hid (tab 68 (ebyte k v d) = L) := heb
    clear hsame heb
    generalize hSL : strOfNums L = S at *
    have HSL : Hid (strOfNums L = S) := hSL
    clear hSL
    go_wp2_with (first | (guard_target =~ wpList _ _ _ (Oper.mk _ (Op.store 30 _ _) _ _ _ _ :: _) _ _; refine wpList_store_run rfl 30 (.tmp 13) (.tmp 62) rfl (by rfl) (by rfl) hst9 ?_) | (guard_target =~ wpList _ _ _ (Oper.mk _ (Op.load 30 (.tmp 11)) _ _ _ _ :: _) _ _; refine wpList_load_run' rfl 30 (.tmp 11) rfl (by rfl) hld1 ?_) | (guard_target =~ wpList _ _ _ (Oper.mk _ (Op.load 30 (.tmp 13)) _ _ _ _ :: _) _ _; refine wpList_load_run' rfl 30 (.tmp 13) rfl (by rfl) hld2 ?_) | (guard_target =~ wpList _ _ _ (Oper.mk _ (Op.binOp .neq 30 _ _ _) _ _ _ _ :: _) _ _; refine wpList_neq_page rfl (.tmp 68) (.tmp 69) rfl (by rfl) (by rfl) (r := false) (by rw [hsp]; rfl) ?_) | (go_at_call 11; refine hcl.mono ?_; rintro e w' ⟨rfl, rfl⟩) | (go_at_call 17; refine hcr.mono ?_; rintro e w' ⟨rfl, rfl⟩))
    refine (enc_any k v d _ hk3 hd).mono ?_
    rintro e w10 ⟨g10, rfl, hg10, hb10, hk10⟩
    have htd := (hb10.page_row hk3 hd).text
    rw [hL.out, HSL.out] at htd
    have hta2 := (hra9.keep hk10 (fun _ _ _ e => e)).text
    rw [HSL.out] at hta2
    have HKe := HKw.trans hk10
    clear hb10 hk10 hcl hcr hld1 hld2 hst9 hta htc hra9
    go_wp2_with fail
    go_ret
    exact ⟨ret_b (by simp), HKe⟩
  · generalize strOfNums L = S at *
    go_wp2_with (first | (guard_target =~ wpList _ _ _ (Oper.mk _ (Op.store 30 _ _) _ _ _ _ :: _) _ _; refine wpList_store_run rfl 30 (.tmp 13) (.tmp 62) rfl (by rfl) (by rfl) hst9 ?_) | (guard_target =~ wpList _ _ _ (Oper.mk _ (Op.load 30 (.tmp 11)) _ _ _ _ :: _) _ _; refine wpList_load_run' rfl 30 (.tmp 11) rfl (by rfl) hld1 ?_) | (guard_target =~ wpList _ _ _ (Oper.mk _ (Op.load 30 (.tmp 13)) _ _ _ _ :: _) _ _; refine wpList_load_run' rfl 30 (.tmp 13) rfl (by rfl) hld2 ?_) | (guard_target =~ wpList _ _ _ (Oper.mk _ (Op.binOp .neq 30 _ _ _) _ _ _ _ :: _) _ _; refine wpList_neq_page rfl (.tmp 68) (.tmp 69) rfl (by rfl) (by rfl) (r := false) (by rw [hsp]; rfl) ?_) | (go_at_call 11; refine hcl.mono ?_; rintro e w' ⟨rfl, rfl⟩) | (go_at_call 17; refine hcr.mono ?_; rintro e w' ⟨rfl, rfl⟩))
    go_ret
    exact ⟨rfl, HKw⟩

set_option maxHeartbeats 2000000 in
theorem bytes_f_hi (a : Option Addr) (len cap : Nat) (l : List Int) (z : Int) (ch : Int) (w : World) (hr : Row w a len cap l) (hlen : len ≤ 140737488351232)  (hz0 : 0 ≤ z) (hz : (len : Int) ≤ z) :
    Calls Try.prog 5 #[.slice a len cap, .bool false, .int .i64 z, .int .u8 ch] w fun e w' => e = .returned (.bool true) ∧ Keep (fun _ => False) w w' := by
  go_enter Try.func5, Try.ntmps5
  go_wp2_with fail
  refine (awake_any _).mono ?_
  rintro e w1 ⟨rfl, hk1⟩
  obtain ⟨g3, cap3, w2, hrun2, hG2⟩ := (Gr.start w1).app rfl ((hr.keep hk1 (fun _ _ _ e => e)).keep (((Keep.refl (fun _ => False) w1)).alloc (.cells #[] 5)) (fun _ _ _ e => e)) (by simp; omega)
  simp only [List.length_nil, Nat.zero_add] at hrun2
  rw [List.nil_append] at hG2
  have hll : l.length = len := hr.1
  have hd1 : (len : Int) ≤ 140737488351232 := by omega
  have hzl : decide (z < (len : Int)) = false := by simpa using hz
  have hG := hG2
  have hln := hll
  obtain ⟨L, hLL⟩ : ∃ L, L = l := ⟨_, rfl⟩
  subst hLL
  obtain ⟨W, hW⟩ : ∃ W, W = w2 := ⟨_, rfl⟩
  subst hW
  obtain ⟨n, hnn⟩ : ∃ n, n = len := ⟨_, rfl⟩
  subst hnn
  have hL4 := hlen
  clear hr hG2 hll
  obtain ⟨htx, g4, cap4, w4, hcv4, hG4⟩ := hG.text hln hL4
  have hK5 : Keep (fun _ => False) w4 (w4.alloc (.cells #[.int .u8 9] 5)) := (Keep.refl _ _).alloc _
  obtain ⟨g5, cap5, w5, hrun5, hG5⟩ := (hG4.more hK5).app hln (row_new w4 [9] (0, 0) w4.heap.size 1 rfl (by simp) (by omega) (by decide)) (by simp; omega)
  simp only [List.length_cons, List.length_nil, Nat.zero_add] at hrun5
  have hbL : ∀ i, 0 ≤ L.getD i 0 ∧ L.getD i 0 ≤ 255 := getD_bound hG.row.2.2.2.1
  have hLt : tab n (fun i => L.getD i 0) = L := by rw [← hln]; exact list_tab L
  have hrc : Row w5 (some ⟨g5, 0, none⟩) n cap5 L := Row.init (m := [9]) (by
    have := hG5.row
    rw [List.length_append, hln] at this
    exact this)
  have hcap5 := hrc.2.1
  have hcap5' := hrc.2.2.1
  have hra : Row W (some ⟨g3, 0, none⟩) n cap3 L := by have := hG.row; rw [hln] at this; exact this
  obtain ⟨k, v, d, hpg, hprop⟩ := dpage_page (n := n) hbL
  obtain ⟨x, hxd⟩ : ∃ x, dcode n (fun i => L.getD i 0) = x := ⟨_, rfl⟩
  have hdec := dec_any (c := fun i => L.getD i 0) (n := n) (by rw [hLt]; exact hrc)
  have hrd : ∀ w', Row w' (some ⟨g3, 0, none⟩) n cap3 L → Calls Try.prog 16 #[.slice (some ⟨g3, 0, none⟩) n cap3] w' fun e w'' => e = .returned (.tuple #[.agg (pageA k v d), .int .i64 x]) ∧ Keep (fun _ => False) w' w'' := fun w' h => by
    have := rdec_any (c := fun i => L.getD i 0) (n := n) (by rw [hLt]; exact h)
    rw [hpg, hxd] at this
    exact this
  rw [hpg, hxd] at hdec
  rw [hxd] at hprop
  have hn5 : (n : Int) ≤ cap5 := by omega
  have hsame : x = 0 → n = 68 ∧ (1 ≤ k ∧ k ≤ 3) ∧ (∀ i, 0 ≤ d i ∧ d i ≤ 255) ∧ tab 68 (ebyte k v d) = L := fun e => by
    obtain ⟨e1, e2, e3, e4⟩ := hprop e
    subst e1
    exact ⟨rfl, e2, e3, (tab_congr (fun i hi => e4 i hi)).trans hLt⟩
  have hbb := hG.row.2.2.2.1
  clear hprop hpg hxd hLt hbL
  go_wp2_with (at_builtin; first | (guard_target =~ wpList _ _ _ (Oper.mk _ (Op.call { callee := _, args := #[.tmp 18, .tmp 19], argTypes := _ }) _ _ _ _ :: _) _ _; refine wpList_append_run rfl (.tmp 18) (.tmp 19) 23 rfl (by rfl) (by rfl) hrun2 ?_) | refine wpList_append_run rfl (.tmp 48) (.tmp 49) 23 rfl (by rfl) (by rfl) hrun5 ?_)
  refine hdec.mono ?_
  rintro e w6 ⟨rfl, hk6⟩
  obtain ⟨w7, hst7, hb7, hk7⟩ := new_page w6 k v d
  have hKc : Keep (fun _ => False) w5 w7 := hk6.trans hk7
  have hKa : Keep (fun _ => False) W w7 := hG5.keep.trans hKc
  have hrd' := hrd w7 (hra.keep hKa (fun _ _ _ e => e))
  clear hdec htx hcv4 hrun5 hrd
  go_wp2_with (refine wpList_store_run rfl 30 (.tmp 11) (.tmp 57) rfl (by rfl) (by rfl) hst7 ?_)
  refine hrd'.mono ?_
  rintro e w8 ⟨rfl, hk8⟩
  obtain ⟨w9, hst9, hb9, hk9⟩ := new_page w8 k v d
  have hK89 := hk8.trans hk9
  have hld1 := loadAt_page (hb7.keep hK89 (fun e => e))
  have hld2 := loadAt_page hb9
  have hsp := samePage_self k v d
  have hrc9 := (hrc.keep hKc (fun _ _ _ e => e)).keep hK89 (fun _ _ _ e => e)
  have hra9 := (hra.keep hKa (fun _ _ _ e => e)).keep hK89 (fun _ _ _ e => e)
  have hG9 := (hG5.more hKc).more hK89
  have hcl := clean_any hrc9
  have hcr := rclean_any hra9
  have htc := (hG9.row).text
  rw [List.length_append, hln, str_nine] at htc
  have hta := hra9.text
  have hno : ¬ 9223372036854775807 < (strOfNums L).size + 1 := by rw [strOfNums_size]; omega
  have HKw : Keep (fun _ => False) w w9 := hk1.trans (hG.keep.trans (hKa.trans hK89))
  simp only [List.length_cons, List.length_nil, Nat.zero_add] at htc
  clear hrd' hst7 hk6 hk7 hk8 hk9 hKc hKa hK89 hb9 hb7 hG5 hG4 hG9 hrc hra hrc9
  generalize cleanB L = cb at hcl hcr
  by_cases hx : x = 0
  · obtain ⟨rfl, hk3, hd, heb⟩ := hsame hx
    subst hx
    have hL : Hid (tab 68 (ebyte k v d) = L) := heb
    clear hsame heb
    generalize hSL : strOfNums L = S at *
    have HSL : Hid (strOfNums L = S) := hSL
    clear hSL
    go_wp2_with (first | (guard_target =~ wpList _ _ _ (Oper.mk _ (Op.store 30 _ _) _ _ _ _ :: _) _ _; refine wpList_store_run rfl 30 (.tmp 13) (.tmp 62) rfl (by rfl) (by rfl) hst9 ?_) | (guard_target =~ wpList _ _ _ (Oper.mk _ (Op.load 30 (.tmp 11)) _ _ _ _ :: _) _ _; refine wpList_load_run' rfl 30 (.tmp 11) rfl (by rfl) hld1 ?_) | (guard_target =~ wpList _ _ _ (Oper.mk _ (Op.load 30 (.tmp 13)) _ _ _ _ :: _) _ _; refine wpList_load_run' rfl 30 (.tmp 13) rfl (by rfl) hld2 ?_) | (guard_target =~ wpList _ _ _ (Oper.mk _ (Op.binOp .neq 30 _ _ _) _ _ _ _ :: _) _ _; refine wpList_neq_page rfl (.tmp 68) (.tmp 69) rfl (by rfl) (by rfl) (r := false) (by rw [hsp]; rfl) ?_) | (go_at_call 11; refine hcl.mono ?_; rintro e w' ⟨rfl, rfl⟩) | (go_at_call 17; refine hcr.mono ?_; rintro e w' ⟨rfl, rfl⟩))
    refine (enc_any k v d _ hk3 hd).mono ?_
    rintro e w10 ⟨g10, rfl, hg10, hb10, hk10⟩
    have htd := (hb10.page_row hk3 hd).text
    rw [hL.out, HSL.out] at htd
    have hta2 := (hra9.keep hk10 (fun _ _ _ e => e)).text
    rw [HSL.out] at hta2
    have HKe := HKw.trans hk10
    clear hb10 hk10 hcl hcr hld1 hld2 hst9 hta htc hra9
    go_wp2_with fail
    go_ret
    exact ⟨ret_b (by simp), HKe⟩
  · generalize strOfNums L = S at *
    go_wp2_with (first | (guard_target =~ wpList _ _ _ (Oper.mk _ (Op.store 30 _ _) _ _ _ _ :: _) _ _; refine wpList_store_run rfl 30 (.tmp 13) (.tmp 62) rfl (by rfl) (by rfl) hst9 ?_) | (guard_target =~ wpList _ _ _ (Oper.mk _ (Op.load 30 (.tmp 11)) _ _ _ _ :: _) _ _; refine wpList_load_run' rfl 30 (.tmp 11) rfl (by rfl) hld1 ?_) | (guard_target =~ wpList _ _ _ (Oper.mk _ (Op.load 30 (.tmp 13)) _ _ _ _ :: _) _ _; refine wpList_load_run' rfl 30 (.tmp 13) rfl (by rfl) hld2 ?_) | (guard_target =~ wpList _ _ _ (Oper.mk _ (Op.binOp .neq 30 _ _ _) _ _ _ _ :: _) _ _; refine wpList_neq_page rfl (.tmp 68) (.tmp 69) rfl (by rfl) (by rfl) (r := false) (by rw [hsp]; rfl) ?_) | (go_at_call 11; refine hcl.mono ?_; rintro e w' ⟨rfl, rfl⟩) | (go_at_call 17; refine hcr.mono ?_; rintro e w' ⟨rfl, rfl⟩))
    go_ret
    exact ⟨rfl, HKw⟩
end Tg
end Go.Proofs.Ytgohmjidbbecpaa
