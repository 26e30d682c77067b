/-
  Change of a run that is there, as the statement TreePlays holds it against its own list.
-/
import Derived.Test.YtnipckcpnbdhhaaSwIns
namespace Go.Proofs.Ytnipckcpnbdhhaa
open Go.ChangeShapes Go.WideShapes Go.ChangeAt Go.RowKit
set_option linter.unusedVariables false
namespace Tg

theorem rcells_set (A B : List Rn) (x r : Rn) : (((rcells (A ++ x :: B)).set (A.length * 3) (.int .i64 r.lba)).set (A.length * 3 + 1) (.int .i64 r.len)).set (A.length * 3 + 2) (.int .i64 r.phys) = rcells (A ++ r :: B) := by
  have hA := rcells_len A
  have e1 : ∀ y, rcells (A ++ y :: B) = rcells A ++ (.int .i64 y.lba :: .int .i64 y.len :: .int .i64 y.phys :: rcells B) := fun y => by simp [rcells, rcs]
  rw [e1, e1, List.set_append_right _ _ (by omega), List.set_append_right _ _ (by omega), List.set_append_right _ _ (by omega), hA]
  simp
/-- A run of the list is written over. -/
theorem Rr.set {w0 w : World} {a : Option Addr} {cap : Nat} {m A B : List Rn} {x : Rn} (h : Rr w0 w a cap m) (hm : m = A ++ x :: B) (r : Rn) :
    ∃ g, a = some ⟨g, 0, none⟩ ∧ ∃ w', (Instr.storeAt 31 (.pointer (some ⟨g, A.length * 3, none⟩)) (.agg #[.int .i64 r.lba, .int .i64 r.len, .int .i64 r.phys])).run Try.prog w = .ok () w' ∧ Rr w0 w' (some ⟨g, 0, none⟩) cap (A ++ r :: B) ∧ Keep (fun y => y = g) w w' := by
  subst hm
  have hl : (A ++ x :: B).length = (A ++ r :: B).length := by simp
  obtain ⟨g, rfl⟩ : ∃ g, a = some ⟨g, 0, none⟩ := by
    rcases h.own.2 with ⟨e, hn⟩ | ⟨g, c, cur, e, -⟩
    · simp at hn
    · injection e with e1; exact ⟨g, e1⟩
  refine ⟨g, rfl, _, run_storeAt_mid w g (A.length * 3) 31 (rnA r) (fun j hj => ?_) (by rw [rnA_size]; exact size31) (all_oneCell_toArray (fun v hv => by simp at hv; obtain ⟨i, _, rfl⟩ := hv; exact rcell_one _ _)), ⟨?_, h.keep.setCells (b := g) (Or.inr (h.block rfl).1) _ _⟩, (Keep.refl (fun y => y = g) w).setCells (b := g) (Or.inl rfl) _ _⟩
  · rw [rnA_size] at hj
    have hlt : A.length * 3 + j < (A ++ x :: B).length * 3 := by simp; omega
    refine ⟨?_, h.own.frozenAt _⟩
    rw [h.own.cellAt _ hlt, List.getElem?_eq_getElem (by rw [rcells_len]; exact hlt)]
    rfl
  · have o1 := (((h.own.stored (A.length * 3) (.int .i64 r.lba)).1.stored (A.length * 3 + 1) (.int .i64 r.len)).1.stored (A.length * 3 + 2) (.int .i64 r.phys)).1
    rw [rcells_set, hl] at o1
    exact o1

set_option maxRecDepth 10000 in
set_option maxHeartbeats 4000000 in
theorem sw_chg0 {C : Code} (hC : C = swCode) {K : Act → World → Prop} {Q : Exit → Act → World → Prop} {w0 wc : World} {b p k N B G cap : Nat} {a : Option Addr} {m : List Rn} {r : Rn} {kk op : Int}
    {z1 z2 z3 z4 z5 z6 z8 z11 z15 z16 z17 z18 z19 z20 z21 z22 z23 z24 z25 z26 z27 z28 z29 z30 z31 z32 z33 z34 z35 z36 z37 z38 z39 z40 z41 z42 z43 z44 z45 z46 z47 z48 z49 z50 z51 z52 z53 z54 z55 z56 z57 z58 z59 z60 z61 z63 z64 z65 z66 z67 z68 z69 z70 z71 z72 z73 z74 z75 z76 z77 z78 z79 z80 z81 z82 z83 z84 z85 z86 z87 z88 z89 z90 z91 z92 z93 z94 z95 z96 z97 z98 z99 z100 z101 z102 z103 z104 z105 z106 z107 z108 z109 z110 z111 z112 z113 z114 z115 z116 z117 z118 z119 z120 z121 z122 z123 z124 z125 z126 z127 z128 z129 z130 z131 z132 z133 z134 z135 z136 z137 z138 z139 z140 z141 z142 z143 z144 z145 z146 z147 z148 z149 z150 z151 z152 z153 z154 z155 z156 z157 z158 z159 z160 z161 z162 z163 z164 z165 z166 z167 z168 z169 z170 z171 z172 z173 z174 z175 z176 z177 z178 z179 z180 z181 : Value}
    (hP : Ps w0 wc b p k N a cap m) (hN1 : 1 ≤ N) (hN2 : N ≤ 60) (cB : wc.cell? ⟨B, 1, none⟩ = some (.int .i64 r.lba)) (hG : Lrn wc G r) (hBo : ¬ Own3 b p k B) (hGo : ¬ Own3 b p k G) (hgB : ∀ g, a = some ⟨g, 0, none⟩ → g ≠ B ∧ g ≠ G) (hkk : kk = atL r.lba m)
    (o0 : op = 2) (A B' : List Rn) (x : Rn) (hm : m = A ++ x :: B') (hxl : x.lba = r.lba) (hk0 : kk = (A.length : Int)) (hx : ∃ l t, Mt w0 wc b p k N l t ∧ t.runs = m ∧ t.idOf r.lba ≠ 0) (hrest : ∀ (u6 u10 u15 u16 u17 u40 u41 u42 u43 u44 u45 u46 u47 u48 u49 u50 u51 u52 u53 u54 u55 u56 u57 u58 u59 u60 u61 u62 u63 u64 u65 u66 u67 u68 u69 u70 u71 u72 u73 u74 u75 u76 u77 u78 u79 u80 u81 u82 u83 u84 u85 u86 u87 u88 u89 u90 u91 u92 u93 u94 u95 u96 u97 u98 u99 u100 u101 u102 u103 u104 u105 u106 u107 u108 u109 u110 u111 u112 u113 u114 u115 u116 u117 u118 u119 u120 u121 u122 u123 u124 u125 u126 u127 u128 u129 u130 u131 u132 u133 u134 u135 u136 u137 u138 u139 u140 u141 u142 u143 u144 u145 u146 u147 u148 u149 u150 u151 u152 u153 u154 u155 u156 u157 u158 u159 u160 u161 u162 u163 u164 u165 u166 u167 u168 u169 u170 u171 u172 u173 u174 u175 u176 u177 u178 u179 u180 u181 : Value) (wx : World), (∃ (a' : Option Addr) (cap' : Nat) (m' : List Rn), u10 = .slice a' m'.length cap' ∧ Ps w0 wx b p k N a' cap' m' ∧ wx.cell? ⟨B, 1, none⟩ = some (.int .i64 r.lba)) → K ⟨List.toArray ((Value.int .i64 (N : Int)) :: z1 :: z2 :: z3 :: z4 :: z5 :: u6 :: (Value.pointer (some ⟨p, 0, none⟩)) :: z8 :: (Value.pointer (some ⟨b, 0, none⟩)) :: u10 :: z11 :: (Value.pointer (some ⟨B, 0, none⟩)) :: (Value.pointer (some ⟨G, 0, none⟩)) :: (Value.int .i64 kk) :: u15 :: u16 :: u17 :: z18 :: z19 :: z20 :: z21 :: z22 :: z23 :: z24 :: z25 :: z26 :: z27 :: z28 :: z29 :: z30 :: z31 :: z32 :: z33 :: z34 :: z35 :: z36 :: z37 :: z38 :: z39 :: u40 :: u41 :: u42 :: u43 :: u44 :: u45 :: u46 :: u47 :: u48 :: u49 :: u50 :: u51 :: u52 :: u53 :: u54 :: u55 :: u56 :: u57 :: u58 :: u59 :: u60 :: u61 :: u62 :: u63 :: u64 :: u65 :: u66 :: u67 :: u68 :: u69 :: u70 :: u71 :: u72 :: u73 :: u74 :: u75 :: u76 :: u77 :: u78 :: u79 :: u80 :: u81 :: u82 :: u83 :: u84 :: u85 :: u86 :: u87 :: u88 :: u89 :: u90 :: u91 :: u92 :: u93 :: u94 :: u95 :: u96 :: u97 :: u98 :: u99 :: u100 :: u101 :: u102 :: u103 :: u104 :: u105 :: u106 :: u107 :: u108 :: u109 :: u110 :: u111 :: u112 :: u113 :: u114 :: u115 :: u116 :: u117 :: u118 :: u119 :: u120 :: u121 :: u122 :: u123 :: u124 :: u125 :: u126 :: u127 :: u128 :: u129 :: u130 :: u131 :: u132 :: u133 :: u134 :: u135 :: u136 :: u137 :: u138 :: u139 :: u140 :: u141 :: u142 :: u143 :: u144 :: u145 :: u146 :: u147 :: u148 :: u149 :: u150 :: u151 :: u152 :: u153 :: u154 :: u155 :: u156 :: u157 :: u158 :: u159 :: u160 :: u161 :: u162 :: u163 :: u164 :: u165 :: u166 :: u167 :: u168 :: u169 :: u170 :: u171 :: u172 :: u173 :: u174 :: u175 :: u176 :: u177 :: u178 :: u179 :: u180 :: u181 :: []), []⟩ wx) :
    Code.wp Try.prog C (Exit.then K Q) ⟨List.toArray ((Value.int .i64 (N : Int)) :: z1 :: z2 :: z3 :: z4 :: z5 :: z6 :: (Value.pointer (some ⟨p, 0, none⟩)) :: z8 :: (Value.pointer (some ⟨b, 0, none⟩)) :: (Value.slice a m.length cap) :: z11 :: (Value.pointer (some ⟨B, 0, none⟩)) :: (Value.pointer (some ⟨G, 0, none⟩)) :: (Value.int .i64 kk) :: z15 :: z16 :: z17 :: z18 :: z19 :: z20 :: z21 :: z22 :: z23 :: z24 :: z25 :: z26 :: z27 :: z28 :: z29 :: z30 :: z31 :: z32 :: z33 :: z34 :: z35 :: z36 :: z37 :: z38 :: z39 :: z40 :: z41 :: z42 :: z43 :: z44 :: z45 :: z46 :: z47 :: z48 :: z49 :: z50 :: z51 :: z52 :: z53 :: z54 :: z55 :: z56 :: z57 :: z58 :: z59 :: z60 :: z61 :: (Value.int .i64 op) :: z63 :: z64 :: z65 :: z66 :: z67 :: z68 :: z69 :: z70 :: z71 :: z72 :: z73 :: z74 :: z75 :: z76 :: z77 :: z78 :: z79 :: z80 :: z81 :: z82 :: z83 :: z84 :: z85 :: z86 :: z87 :: z88 :: z89 :: z90 :: z91 :: z92 :: z93 :: z94 :: z95 :: z96 :: z97 :: z98 :: z99 :: z100 :: z101 :: z102 :: z103 :: z104 :: z105 :: z106 :: z107 :: z108 :: z109 :: z110 :: z111 :: z112 :: z113 :: z114 :: z115 :: z116 :: z117 :: z118 :: z119 :: z120 :: z121 :: z122 :: z123 :: z124 :: z125 :: z126 :: z127 :: z128 :: z129 :: z130 :: z131 :: z132 :: z133 :: z134 :: z135 :: z136 :: z137 :: z138 :: z139 :: z140 :: z141 :: z142 :: z143 :: z144 :: z145 :: z146 :: z147 :: z148 :: z149 :: z150 :: z151 :: z152 :: z153 :: z154 :: z155 :: z156 :: z157 :: z158 :: z159 :: z160 :: z161 :: z162 :: z163 :: z164 :: z165 :: z166 :: z167 :: z168 :: z169 :: z170 :: z171 :: z172 :: z173 :: z174 :: z175 :: z176 :: z177 :: z178 :: z179 :: z180 :: z181 :: []), []⟩ wc := by
  subst hC
  have hlen := hP.len
  have d0 : (m.length : Int) ≤ 9223372036854775807 := by omega
  change Code.wp Try.prog (Code.block 2 _) _ _ _
  go_cut [10] from 40 to 181 (fun v wx => ∃ (a' : Option Addr) (cap' : Nat) (m' : List Rn), v = .slice a' m'.length cap' ∧ Ps w0 wx b p k N a' cap' m' ∧ wx.cell? ⟨B, 1, none⟩ = some (.int .i64 r.lba))
  case first =>
    clear hrest
    obtain ⟨l, t, hM, ht, hz⟩ := hx
    have hcall := hM.change r hz
    rw [rnA_lit] at hcall
    have hrc := runs_chg hM.order (ht.trans hm) hxl
    subst hk0 o0
    have q0 := (hG 0 (by omega)).1
    have q1 := (hG 1 (by omega)).1
    have q2 := (hG 2 (by omega)).1
    simp only [rcell] at q0 q1 q2
    have hmine := hM.mine'
    have hAl : A.length < m.length := by rw [hm]; simp
    have d1 : (A.length : Int) < (m.length : Int) := by omega
    have d2 : (0 : Int) ≤ (A.length : Int) := by omega
    have d3 : ¬ (A.length : Int) < 0 := by omega
    have hrc' : Hid ((t.chg r).runs = A ++ r :: B') := hrc
    have hm' : Hid (m = A ++ x :: B') := hm
    clear hkk ht hz hrc hM hlen hAl hm hxl
    go_wp2_with fail
    refine hcall.mono ?_
    rintro e w6 ⟨rfl, h6, k6⟩
    have row6 := hP.row.other k6 hP.ap hmine
    have cB6 := cell_keep cB k6 hBo
    have G6 : Lrn w6 G r := Blk.keep hG k6 hGo
    obtain ⟨g, rfl, w7, hst, R7, k7⟩ := row6.set (show m = A ++ x :: B' from hm') r
    have hgb := hgB g rfl
    have hgo := hP.ap g rfl
    have h7 := h6.other k7 (fun y e => by rw [e]; exact (row6.block rfl).1) (fun e => hgo (Or.inl e.symm)) (fun e => hgo (Or.inr (Or.inl e.symm))) (fun e => hgo (Or.inr (Or.inr e.symm)))
    have cB7 := cell_keep cB6 k7 (fun e => hgb.1 e.symm)
    have F : Ps w0 w7 b p k N (some ⟨g, 0, none⟩) cap (A ++ r :: B') := ⟨⟨l, _, h7, hrc'⟩, R7, hP.ap⟩
    have hle : Hid (m.length = (A ++ r :: B').length) := by show m.length = _; rw [(show m = A ++ x :: B' from hm')]; simp
    clear hcall hP cB q0 q1 q2 hG k7 h7 R7 hgb hgo h6 k6 row6 hmine
    have q0 := (G6 0 (by omega)).1
    have q1 := (G6 1 (by omega)).1
    have q2 := (G6 2 (by omega)).1
    simp only [rcell] at q0 q1 q2
    go_wp2_with (guard_target =~ wpList _ _ _ (Oper.mk _ (Op.store 31 _ _) _ _ _ _ :: _) _ _; refine wpList_store_run rfl 31 (.tmp 161) (.tmp 160) rfl (by rfl) (by rfl) hst ?_)
    go_meet
    exact ⟨_, cap, A ++ r :: B', congrArg (fun z => Value.slice (some ⟨g, 0, none⟩) z cap) hle, F, cB7⟩
  case rest =>
    exact hrest _ _ _ _ _ _ _ _ _ _ _ _ _ _ _ _ _ _ _ _ _ _ _ _ _ _ _ _ _ _ _ _ _ _ _ _ _ _ _ _ _ _ _ _ _ _ _ _ _ _ _ _ _ _ _ _ _ _ _ _ _ _ _ _ _ _ _ _ _ _ _ _ _ _ _ _ _ _ _ _ _ _ _ _ _ _ _ _ _ _ _ _ _ _ _ _ _ _ _ _ _ _ _ _ _ _ _ _ _ _ _ _ _ _ _ _ _ _ _ _ _ _ _ _ _ _ _ _ _ _ _ _ _ _ _ _ _ _ _ _ _ _ _ _ _ _ _ _ hcut

end Tg
end Go.Proofs.Ytnipckcpnbdhhaa
