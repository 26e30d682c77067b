/-
  Any call, as the statement TreePlays holds it against its own list.
-/
import Derived.Test.YtnipckcpnbdhhaaSwIns
import Derived.Test.YtnipckcpnbdhhaaSwNo
import Derived.Test.YtnipckcpnbdhhaaSwChg
import Derived.Test.YtnipckcpnbdhhaaSwDel
namespace Go.Proofs.Ytnipckcpnbdhhaa
open Go.ChangeShapes Go.WideShapes Go.ChangeAt Go.RowKit
set_option linter.unusedVariables false
namespace Tg

set_option maxRecDepth 10000 in
theorem sw_any {C : Code} (hC : C = swCode) {K : Act → World → Prop} {Q : Exit → Act → World → Prop} {w0 wc : World} {b p k N B G cap : Nat} {a : Option Addr} {m : List Rn} {r : Rn} {kk op : Int}
    {z1 z2 z3 z4 z5 z6 z8 z11 z15 z16 z17 z18 z19 z20 z21 z22 z23 z24 z25 z26 z27 z28 z29 z30 z31 z32 z33 z34 z35 z36 z37 z38 z39 z40 z41 z42 z43 z44 z45 z46 z47 z48 z49 z50 z51 z52 z53 z54 z55 z56 z57 z58 z59 z60 z61 z63 z64 z65 z66 z67 z68 z69 z70 z71 z72 z73 z74 z75 z76 z77 z78 z79 z80 z81 z82 z83 z84 z85 z86 z87 z88 z89 z90 z91 z92 z93 z94 z95 z96 z97 z98 z99 z100 z101 z102 z103 z104 z105 z106 z107 z108 z109 z110 z111 z112 z113 z114 z115 z116 z117 z118 z119 z120 z121 z122 z123 z124 z125 z126 z127 z128 z129 z130 z131 z132 z133 z134 z135 z136 z137 z138 z139 z140 z141 z142 z143 z144 z145 z146 z147 z148 z149 z150 z151 z152 z153 z154 z155 z156 z157 z158 z159 z160 z161 z162 z163 z164 z165 z166 z167 z168 z169 z170 z171 z172 z173 z174 z175 z176 z177 z178 z179 z180 z181 : Value}
    (hP : Ps w0 wc b p k N a cap m) (hN1 : 1 ≤ N) (hN2 : N ≤ 60) (cB : wc.cell? ⟨B, 1, none⟩ = some (.int .i64 r.lba)) (hG : Lrn wc G r) (hBo : ¬ Own3 b p k B) (hGo : ¬ Own3 b p k G) (hgB : ∀ g, a = some ⟨g, 0, none⟩ → g ≠ B ∧ g ≠ G) (hkk : kk = atL r.lba m)
    (hrest : ∀ (u6 u10 u15 u16 u17 u40 u41 u42 u43 u44 u45 u46 u47 u48 u49 u50 u51 u52 u53 u54 u55 u56 u57 u58 u59 u60 u61 u62 u63 u64 u65 u66 u67 u68 u69 u70 u71 u72 u73 u74 u75 u76 u77 u78 u79 u80 u81 u82 u83 u84 u85 u86 u87 u88 u89 u90 u91 u92 u93 u94 u95 u96 u97 u98 u99 u100 u101 u102 u103 u104 u105 u106 u107 u108 u109 u110 u111 u112 u113 u114 u115 u116 u117 u118 u119 u120 u121 u122 u123 u124 u125 u126 u127 u128 u129 u130 u131 u132 u133 u134 u135 u136 u137 u138 u139 u140 u141 u142 u143 u144 u145 u146 u147 u148 u149 u150 u151 u152 u153 u154 u155 u156 u157 u158 u159 u160 u161 u162 u163 u164 u165 u166 u167 u168 u169 u170 u171 u172 u173 u174 u175 u176 u177 u178 u179 u180 u181 : Value) (wx : World), (∃ (a' : Option Addr) (cap' : Nat) (m' : List Rn), u10 = .slice a' m'.length cap' ∧ Ps w0 wx b p k N a' cap' m' ∧ wx.cell? ⟨B, 1, none⟩ = some (.int .i64 r.lba)) → K ⟨List.toArray ((Value.int .i64 (N : Int)) :: z1 :: z2 :: z3 :: z4 :: z5 :: u6 :: (Value.pointer (some ⟨p, 0, none⟩)) :: z8 :: (Value.pointer (some ⟨b, 0, none⟩)) :: u10 :: z11 :: (Value.pointer (some ⟨B, 0, none⟩)) :: (Value.pointer (some ⟨G, 0, none⟩)) :: (Value.int .i64 kk) :: u15 :: u16 :: u17 :: z18 :: z19 :: z20 :: z21 :: z22 :: z23 :: z24 :: z25 :: z26 :: z27 :: z28 :: z29 :: z30 :: z31 :: z32 :: z33 :: z34 :: z35 :: z36 :: z37 :: z38 :: z39 :: u40 :: u41 :: u42 :: u43 :: u44 :: u45 :: u46 :: u47 :: u48 :: u49 :: u50 :: u51 :: u52 :: u53 :: u54 :: u55 :: u56 :: u57 :: u58 :: u59 :: u60 :: u61 :: u62 :: u63 :: u64 :: u65 :: u66 :: u67 :: u68 :: u69 :: u70 :: u71 :: u72 :: u73 :: u74 :: u75 :: u76 :: u77 :: u78 :: u79 :: u80 :: u81 :: u82 :: u83 :: u84 :: u85 :: u86 :: u87 :: u88 :: u89 :: u90 :: u91 :: u92 :: u93 :: u94 :: u95 :: u96 :: u97 :: u98 :: u99 :: u100 :: u101 :: u102 :: u103 :: u104 :: u105 :: u106 :: u107 :: u108 :: u109 :: u110 :: u111 :: u112 :: u113 :: u114 :: u115 :: u116 :: u117 :: u118 :: u119 :: u120 :: u121 :: u122 :: u123 :: u124 :: u125 :: u126 :: u127 :: u128 :: u129 :: u130 :: u131 :: u132 :: u133 :: u134 :: u135 :: u136 :: u137 :: u138 :: u139 :: u140 :: u141 :: u142 :: u143 :: u144 :: u145 :: u146 :: u147 :: u148 :: u149 :: u150 :: u151 :: u152 :: u153 :: u154 :: u155 :: u156 :: u157 :: u158 :: u159 :: u160 :: u161 :: u162 :: u163 :: u164 :: u165 :: u166 :: u167 :: u168 :: u169 :: u170 :: u171 :: u172 :: u173 :: u174 :: u175 :: u176 :: u177 :: u178 :: u179 :: u180 :: u181 :: []), []⟩ wx) :
    Code.wp Try.prog C (Exit.then K Q) ⟨List.toArray ((Value.int .i64 (N : Int)) :: z1 :: z2 :: z3 :: z4 :: z5 :: z6 :: (Value.pointer (some ⟨p, 0, none⟩)) :: z8 :: (Value.pointer (some ⟨b, 0, none⟩)) :: (Value.slice a m.length cap) :: z11 :: (Value.pointer (some ⟨B, 0, none⟩)) :: (Value.pointer (some ⟨G, 0, none⟩)) :: (Value.int .i64 kk) :: z15 :: z16 :: z17 :: z18 :: z19 :: z20 :: z21 :: z22 :: z23 :: z24 :: z25 :: z26 :: z27 :: z28 :: z29 :: z30 :: z31 :: z32 :: z33 :: z34 :: z35 :: z36 :: z37 :: z38 :: z39 :: z40 :: z41 :: z42 :: z43 :: z44 :: z45 :: z46 :: z47 :: z48 :: z49 :: z50 :: z51 :: z52 :: z53 :: z54 :: z55 :: z56 :: z57 :: z58 :: z59 :: z60 :: z61 :: (Value.int .i64 op) :: z63 :: z64 :: z65 :: z66 :: z67 :: z68 :: z69 :: z70 :: z71 :: z72 :: z73 :: z74 :: z75 :: z76 :: z77 :: z78 :: z79 :: z80 :: z81 :: z82 :: z83 :: z84 :: z85 :: z86 :: z87 :: z88 :: z89 :: z90 :: z91 :: z92 :: z93 :: z94 :: z95 :: z96 :: z97 :: z98 :: z99 :: z100 :: z101 :: z102 :: z103 :: z104 :: z105 :: z106 :: z107 :: z108 :: z109 :: z110 :: z111 :: z112 :: z113 :: z114 :: z115 :: z116 :: z117 :: z118 :: z119 :: z120 :: z121 :: z122 :: z123 :: z124 :: z125 :: z126 :: z127 :: z128 :: z129 :: z130 :: z131 :: z132 :: z133 :: z134 :: z135 :: z136 :: z137 :: z138 :: z139 :: z140 :: z141 :: z142 :: z143 :: z144 :: z145 :: z146 :: z147 :: z148 :: z149 :: z150 :: z151 :: z152 :: z153 :: z154 :: z155 :: z156 :: z157 :: z158 :: z159 :: z160 :: z161 :: z162 :: z163 :: z164 :: z165 :: z166 :: z167 :: z168 :: z169 :: z170 :: z171 :: z172 :: z173 :: z174 :: z175 :: z176 :: z177 :: z178 :: z179 :: z180 :: z181 :: []), []⟩ wc := by
  rcases hP.parts r.lba with ⟨l, t, hM, ht, hz, hat⟩ | ⟨l, t, A, x, B', hM, ht, hz, hm, hxl, hat⟩
  · have hk0 : kk = -1 := hkk.trans hat
    by_cases o0 : op = 0
    · cases l with
      | nil => exact sw_ins5 hC hP hN1 hN2 cB hG hBo hGo hgB hkk o0 hk0 ⟨t, hM, ht, hz⟩ hrest
      | cons n l => exact sw_ins0 hC hP hN1 hN2 cB hG hBo hGo hgB hkk o0 hk0 ⟨n, l, t, hM, ht, hz⟩ hrest
    · by_cases o1 : op = 1
      · exact sw_del4 hC hP hN1 hN2 cB hG hBo hGo hgB hkk o1 hk0 ⟨l, t, hM, ht, hz⟩ hrest
      · by_cases o2 : op = 2
        · exact sw_chg4 hC hP hN1 hN2 cB hG hBo hGo hgB hkk o2 hk0 ⟨l, t, hM, ht, hz⟩ hrest
        · exact sw_other hC hP hN1 hN2 cB hG hBo hGo hgB hkk o0 o1 o2 hrest
  · have hk0 : kk = (A.length : Int) := hkk.trans hat
    by_cases o0 : op = 0
    · exact sw_ins1 hC hP hN1 hN2 cB hG hBo hGo hgB hkk o0 ⟨A.length, hk0⟩ ⟨l, t, hM, ht, hz⟩ hrest
    · by_cases o1 : op = 1
      · exact sw_del0 hC hP hN1 hN2 cB hG hBo hGo hgB hkk o1 A B' x hm hxl hk0 ⟨l, t, hM, ht, hz⟩ hrest
      · by_cases o2 : op = 2
        · exact sw_chg0 hC hP hN1 hN2 cB hG hBo hGo hgB hkk o2 A B' x hm hxl hk0 ⟨l, t, hM, ht, hz⟩ hrest
        · exact sw_other hC hP hN1 hN2 cB hG hBo hGo hgB hkk o0 o1 o2 hrest
end Tg
end Go.Proofs.Ytnipckcpnbdhhaa
