/-
  Delete of a run that is there, as the statement TreePlays holds it against its own list.
-/
import Derived.Test.YtnipckcpnbdhhaaSwIns
namespace Go.Proofs.Ytnipckcpnbdhhaa
open Go.ChangeShapes Go.WideShapes Go.ChangeAt Go.RowKit
set_option linter.unusedVariables false
namespace Tg

set_option maxRecDepth 10000 in
set_option maxHeartbeats 4000000 in
theorem sw_del0 {C : Code} (hC : C = swCode) {K : Act → World → Prop} {Q : Exit → Act → World → Prop} {w0 wc : World} {b p k N B G cap : Nat} {a : Option Addr} {m : List Rn} {r : Rn} {kk op : Int}
    {z1 z2 z3 z4 z5 z6 z8 z11 z15 z16 z17 z18 z19 z20 z21 z22 z23 z24 z25 z26 z27 z28 z29 z30 z31 z32 z33 z34 z35 z36 z37 z38 z39 z40 z41 z42 z43 z44 z45 z46 z47 z48 z49 z50 z51 z52 z53 z54 z55 z56 z57 z58 z59 z60 z61 z63 z64 z65 z66 z67 z68 z69 z70 z71 z72 z73 z74 z75 z76 z77 z78 z79 z80 z81 z82 z83 z84 z85 z86 z87 z88 z89 z90 z91 z92 z93 z94 z95 z96 z97 z98 z99 z100 z101 z102 z103 z104 z105 z106 z107 z108 z109 z110 z111 z112 z113 z114 z115 z116 z117 z118 z119 z120 z121 z122 z123 z124 z125 z126 z127 z128 z129 z130 z131 z132 z133 z134 z135 z136 z137 z138 z139 z140 z141 z142 z143 z144 z145 z146 z147 z148 z149 z150 z151 z152 z153 z154 z155 z156 z157 z158 z159 z160 z161 z162 z163 z164 z165 z166 z167 z168 z169 z170 z171 z172 z173 z174 z175 z176 z177 z178 z179 z180 z181 : Value}
    (hP : Ps w0 wc b p k N a cap m) (hN1 : 1 ≤ N) (hN2 : N ≤ 60) (cB : wc.cell? ⟨B, 1, none⟩ = some (.int .i64 r.lba)) (hG : Lrn wc G r) (hBo : ¬ Own3 b p k B) (hGo : ¬ Own3 b p k G) (hgB : ∀ g, a = some ⟨g, 0, none⟩ → g ≠ B ∧ g ≠ G) (hkk : kk = atL r.lba m)
    (o0 : op = 1) (A B' : List Rn) (x : Rn) (hm : m = A ++ x :: B') (hxl : x.lba = r.lba) (hk0 : kk = (A.length : Int)) (hx : ∃ l t, Mt w0 wc b p k N l t ∧ t.runs = m ∧ t.idOf r.lba ≠ 0) (hrest : ∀ (u6 u10 u15 u16 u17 u40 u41 u42 u43 u44 u45 u46 u47 u48 u49 u50 u51 u52 u53 u54 u55 u56 u57 u58 u59 u60 u61 u62 u63 u64 u65 u66 u67 u68 u69 u70 u71 u72 u73 u74 u75 u76 u77 u78 u79 u80 u81 u82 u83 u84 u85 u86 u87 u88 u89 u90 u91 u92 u93 u94 u95 u96 u97 u98 u99 u100 u101 u102 u103 u104 u105 u106 u107 u108 u109 u110 u111 u112 u113 u114 u115 u116 u117 u118 u119 u120 u121 u122 u123 u124 u125 u126 u127 u128 u129 u130 u131 u132 u133 u134 u135 u136 u137 u138 u139 u140 u141 u142 u143 u144 u145 u146 u147 u148 u149 u150 u151 u152 u153 u154 u155 u156 u157 u158 u159 u160 u161 u162 u163 u164 u165 u166 u167 u168 u169 u170 u171 u172 u173 u174 u175 u176 u177 u178 u179 u180 u181 : Value) (wx : World), (∃ (a' : Option Addr) (cap' : Nat) (m' : List Rn), u10 = .slice a' m'.length cap' ∧ Ps w0 wx b p k N a' cap' m' ∧ wx.cell? ⟨B, 1, none⟩ = some (.int .i64 r.lba)) → K ⟨List.toArray ((Value.int .i64 (N : Int)) :: z1 :: z2 :: z3 :: z4 :: z5 :: u6 :: (Value.pointer (some ⟨p, 0, none⟩)) :: z8 :: (Value.pointer (some ⟨b, 0, none⟩)) :: u10 :: z11 :: (Value.pointer (some ⟨B, 0, none⟩)) :: (Value.pointer (some ⟨G, 0, none⟩)) :: (Value.int .i64 kk) :: u15 :: u16 :: u17 :: z18 :: z19 :: z20 :: z21 :: z22 :: z23 :: z24 :: z25 :: z26 :: z27 :: z28 :: z29 :: z30 :: z31 :: z32 :: z33 :: z34 :: z35 :: z36 :: z37 :: z38 :: z39 :: u40 :: u41 :: u42 :: u43 :: u44 :: u45 :: u46 :: u47 :: u48 :: u49 :: u50 :: u51 :: u52 :: u53 :: u54 :: u55 :: u56 :: u57 :: u58 :: u59 :: u60 :: u61 :: u62 :: u63 :: u64 :: u65 :: u66 :: u67 :: u68 :: u69 :: u70 :: u71 :: u72 :: u73 :: u74 :: u75 :: u76 :: u77 :: u78 :: u79 :: u80 :: u81 :: u82 :: u83 :: u84 :: u85 :: u86 :: u87 :: u88 :: u89 :: u90 :: u91 :: u92 :: u93 :: u94 :: u95 :: u96 :: u97 :: u98 :: u99 :: u100 :: u101 :: u102 :: u103 :: u104 :: u105 :: u106 :: u107 :: u108 :: u109 :: u110 :: u111 :: u112 :: u113 :: u114 :: u115 :: u116 :: u117 :: u118 :: u119 :: u120 :: u121 :: u122 :: u123 :: u124 :: u125 :: u126 :: u127 :: u128 :: u129 :: u130 :: u131 :: u132 :: u133 :: u134 :: u135 :: u136 :: u137 :: u138 :: u139 :: u140 :: u141 :: u142 :: u143 :: u144 :: u145 :: u146 :: u147 :: u148 :: u149 :: u150 :: u151 :: u152 :: u153 :: u154 :: u155 :: u156 :: u157 :: u158 :: u159 :: u160 :: u161 :: u162 :: u163 :: u164 :: u165 :: u166 :: u167 :: u168 :: u169 :: u170 :: u171 :: u172 :: u173 :: u174 :: u175 :: u176 :: u177 :: u178 :: u179 :: u180 :: u181 :: []), []⟩ wx) :
    Code.wp Try.prog C (Exit.then K Q) ⟨List.toArray ((Value.int .i64 (N : Int)) :: z1 :: z2 :: z3 :: z4 :: z5 :: z6 :: (Value.pointer (some ⟨p, 0, none⟩)) :: z8 :: (Value.pointer (some ⟨b, 0, none⟩)) :: (Value.slice a m.length cap) :: z11 :: (Value.pointer (some ⟨B, 0, none⟩)) :: (Value.pointer (some ⟨G, 0, none⟩)) :: (Value.int .i64 kk) :: z15 :: z16 :: z17 :: z18 :: z19 :: z20 :: z21 :: z22 :: z23 :: z24 :: z25 :: z26 :: z27 :: z28 :: z29 :: z30 :: z31 :: z32 :: z33 :: z34 :: z35 :: z36 :: z37 :: z38 :: z39 :: z40 :: z41 :: z42 :: z43 :: z44 :: z45 :: z46 :: z47 :: z48 :: z49 :: z50 :: z51 :: z52 :: z53 :: z54 :: z55 :: z56 :: z57 :: z58 :: z59 :: z60 :: z61 :: (Value.int .i64 op) :: z63 :: z64 :: z65 :: z66 :: z67 :: z68 :: z69 :: z70 :: z71 :: z72 :: z73 :: z74 :: z75 :: z76 :: z77 :: z78 :: z79 :: z80 :: z81 :: z82 :: z83 :: z84 :: z85 :: z86 :: z87 :: z88 :: z89 :: z90 :: z91 :: z92 :: z93 :: z94 :: z95 :: z96 :: z97 :: z98 :: z99 :: z100 :: z101 :: z102 :: z103 :: z104 :: z105 :: z106 :: z107 :: z108 :: z109 :: z110 :: z111 :: z112 :: z113 :: z114 :: z115 :: z116 :: z117 :: z118 :: z119 :: z120 :: z121 :: z122 :: z123 :: z124 :: z125 :: z126 :: z127 :: z128 :: z129 :: z130 :: z131 :: z132 :: z133 :: z134 :: z135 :: z136 :: z137 :: z138 :: z139 :: z140 :: z141 :: z142 :: z143 :: z144 :: z145 :: z146 :: z147 :: z148 :: z149 :: z150 :: z151 :: z152 :: z153 :: z154 :: z155 :: z156 :: z157 :: z158 :: z159 :: z160 :: z161 :: z162 :: z163 :: z164 :: z165 :: z166 :: z167 :: z168 :: z169 :: z170 :: z171 :: z172 :: z173 :: z174 :: z175 :: z176 :: z177 :: z178 :: z179 :: z180 :: z181 :: []), []⟩ wc := by
  subst hC
  have hlen := hP.len
  have d0 : (m.length : Int) ≤ 9223372036854775807 := by omega
  change Code.wp Try.prog (Code.block 2 _) _ _ _
  go_cut [10] from 40 to 181 (fun v wx => ∃ (a' : Option Addr) (cap' : Nat) (m' : List Rn), v = .slice a' m'.length cap' ∧ Ps w0 wx b p k N a' cap' m' ∧ wx.cell? ⟨B, 1, none⟩ = some (.int .i64 r.lba))
  case first =>
    clear hrest
    obtain ⟨l, t, hM, ht, hz⟩ := hx
    have hcall := hM.delete r.lba hz
    have hrd := runs_del hM.order (ht.trans hm)
    rw [hxl] at hrd
    subst hk0 o0
    have hmine := hM.mine'
    have hAl : A.length < m.length := by rw [hm]; simp
    have d1 : (A.length : Int) < (m.length : Int) := by omega
    have d2 : (0 : Int) ≤ (A.length : Int) := by omega
    have d3 : ¬ (A.length : Int) < 0 := by omega
    have hrd' : Hid ((t.del r.lba).runs = A ++ B') := hrd
    have hm' : Hid (m = A ++ x :: B') := hm
    have hl60 : Hid (m.length ≤ 60) := by show m.length ≤ 60; omega
    clear hkk ht hz hrd hM hlen hm hxl hG
    go_wp2_with fail
    refine hcall.mono ?_
    rintro e w6 ⟨rfl, h6, k6⟩
    have row6 := hP.row.other k6 hP.ap hmine
    have cB6 := cell_keep cB k6 hBo
    clear hcall cB hgB hP k6 hmine
    obtain ⟨hcap1, hcap2, hrs⟩ := row6.rs
    rcases hrs with hrs | ⟨g, rfl, hcs⟩
    · rw [(show m = A ++ x :: B' from hm')] at hrs; simp at hrs
    have d4 : (A.length : Int) ≤ (cap : Int) := by omega
    obtain ⟨j, hj⟩ : ∃ j, j = A.length + 1 := ⟨_, rfl⟩
    have d5 : IntKind.i64.wrap ((A.length : Int) + 1) = (j : Int) := by have : m.length ≤ 60 := hl60; rw [IntKind.wrap_i64] <;> omega
    have d6 : (j : Int) ≤ (m.length : Int) := by omega
    have d7 : (m.length : Int) ≤ (cap : Int) := by omega
    have d8 : (0 : Int) ≤ (j : Int) := by omega
    have hj' : Hid (j = A.length + 1) := hj
    clear hj
    have E0 : Rr w6 (w6.alloc (.cells #[] 31)).drew (some ⟨w6.heap.size, 0, none⟩) 0 [] :=
      ⟨⟨rfl, Or.inr ⟨w6.heap.size, 0, #[], rfl, Nat.le_refl _, heap_alloc_new w6 _, Nat.le_refl _, by unfold maxLen; omega, rfl, rfl⟩⟩, ((Keep.refl _ _).alloc _).drew⟩
    have lAB : Hid (A.length ≤ 60 ∧ B'.length ≤ 60) := by
      show A.length ≤ 60 ∧ B'.length ≤ 60
      have e := congrArg List.length (show m = A ++ x :: B' from hm')
      have : m.length ≤ 60 := hl60
      rw [List.length_append, List.length_cons] at e
      omega
    have hsp : rcells m = rcells A ++ (rcs x ++ rcells B') := by rw [(show m = A ++ x :: B' from hm')]; simp [rcells]
    have hcs1 : ∀ w', Keep (fun _ => False) w6 w' → ∀ q u, (rcells m)[q]? = some u → w'.cell? ⟨g, q, none⟩ = some u := fun w' hk q u hu => cell_keep (hcs q u hu) hk (fun e => e)
    obtain ⟨a1, cap1, w7, happ1, R1, -⟩ := E0.appN ⟨g, 0, none⟩ cap A (by have := lAB.1; rw [List.length_nil]; omega) (fun q u hu => by
      rw [Addr.add_lit, Nat.zero_add]
      refine hcs1 _ E0.keep q u ?_
      rw [hsp, List.getElem?_append_left (List.getElem?_eq_some_iff.1 hu).1]; exact hu)
    simp only [List.length_nil, Nat.zero_add, List.nil_append] at happ1 R1
    have hnewB : ∀ q u, (rcells B')[q]? = some u → w7.cell? ⟨g, j * 3 + q, none⟩ = some u := fun q u hu => by
      refine hcs1 _ R1.keep _ u ?_
      have hjj : j = A.length + 1 := hj'
      have hAl3 := rcells_len A
      rw [hsp, List.getElem?_append_right (by omega), List.getElem?_append_right (by simp [rcs]; omega), ← hu]
      congr 1
      simp [rcs]; omega
    have hgo6 : ∀ y, w6.heap.size ≤ y → ¬ Own3 b p k y := fun y hy => h6.out hy
    clear hcs hcs1 hsp E0 hcap1 hcap2
    by_cases hc : cap = j
    · obtain rfl : cap = m.length := by omega
      have hjm : j = m.length := by omega
      subst hjm
      have hB0 : B' = [] := by
        have := congrArg List.length (show m = A ++ x :: B' from hm')
        have hjj : m.length = A.length + 1 := hj'
        simp at this
        exact List.eq_nil_of_length_eq_zero (by omega)
      subst hB0
      have hmA : Hid (A ++ [] = A) := List.append_nil A
      obtain ⟨a2, cap2, w8, happ2, R2, -⟩ := R1.appN ⟨g, 0, none⟩ 0 [] (by have := lAB.1; rw [List.length_nil]; omega) (fun q u hu => by simp [rcells] at hu)
      simp only [List.length_nil, Nat.add_zero] at happ2
      have h8 := h6.more R2.keep
      have cB8 := cell_keep cB6 R2.keep (fun e => e)
      have F : Ps w0 w8 b p k N a2 cap2 (A ++ []) := ⟨⟨_, _, h8, hrd'⟩, R2.base h8.keep h6.keep.size, fun y e => hgo6 y (R2.block e).1⟩
      have hle : Hid (A.length = (A ++ []).length) := by show A.length = _; simp
      clear R1 R2 h8 h6 hgo6 row6 cB6 hnewB hc
      go_wp2_with fail
      go_region_held3 (fun _ => True) (trivial) (first | refine step_append_run rfl (.tmp 128) (.tmp 131) 40 rfl (by rfl) (by rfl) happ1 ?_ | refine step_append_run rfl (.tmp 132) (.tmp 136) 40 rfl (by rfl) (by rfl) happ2 ?_)
      go_wp2_with fail
      go_meet
      exact ⟨a2, cap2, A ++ [], congrArg (fun z => Value.slice a2 z cap2) hle, F, cB8⟩
    · have hb2 : Hid (B'.length = m.length - j) := by
        show B'.length = m.length - j
        have := congrArg List.length (show m = A ++ x :: B' from hm')
        have hjj : j = A.length + 1 := hj'
        simp at this; omega
      obtain ⟨a2, cap2, w8, happ2, R2, -⟩ := R1.appN ⟨g, j * 3, none⟩ (cap - j) B' (by have := lAB.1; have := lAB.2; omega) (fun q u hu => by rw [Addr.add_lit]; exact hnewB q u hu)
      rw [(show B'.length = m.length - j from hb2)] at happ2
      have h8 := h6.more R2.keep
      have cB8 := cell_keep cB6 R2.keep (fun e => e)
      have F : Ps w0 w8 b p k N a2 cap2 (A ++ B') := ⟨⟨_, _, h8, hrd'⟩, R2.base h8.keep h6.keep.size, fun y e => hgo6 y (R2.block e).1⟩
      have hle : Hid (A.length + (m.length - j) = (A ++ B').length) := by show A.length + (m.length - j) = _; rw [List.length_append, (show B'.length = m.length - j from hb2)]
      clear R1 R2 h8 h6 hgo6 row6 cB6 hnewB
      go_wp2_with fail
      go_region_held3 (fun _ => True) (trivial) (first | refine step_append_run rfl (.tmp 128) (.tmp 131) 40 rfl (by rfl) (by rfl) happ1 ?_ | refine step_append_run rfl (.tmp 132) (.tmp 136) 40 rfl (by rfl) (by rfl) happ2 ?_)
      go_wp2_with fail
      go_meet
      exact ⟨a2, cap2, A ++ B', congrArg (fun z => Value.slice a2 z cap2) hle, F, cB8⟩
  case rest =>
    exact hrest _ _ _ _ _ _ _ _ _ _ _ _ _ _ _ _ _ _ _ _ _ _ _ _ _ _ _ _ _ _ _ _ _ _ _ _ _ _ _ _ _ _ _ _ _ _ _ _ _ _ _ _ _ _ _ _ _ _ _ _ _ _ _ _ _ _ _ _ _ _ _ _ _ _ _ _ _ _ _ _ _ _ _ _ _ _ _ _ _ _ _ _ _ _ _ _ _ _ _ _ _ _ _ _ _ _ _ _ _ _ _ _ _ _ _ _ _ _ _ _ _ _ _ _ _ _ _ _ _ _ _ _ _ _ _ _ _ _ _ _ _ _ _ _ _ _ _ _ hcut

end Tg
end Go.Proofs.Ytnipckcpnbdhhaa
