/-
  A call of Take, as the statement ArenaPlays holds it against its own rows.
-/
import Derived.Test.YtdeepmifolaenaaSw
namespace Go.Proofs.Ytdeepmifolaenaa
open Go.ChangeShapes Go.WideShapes Go.ChangeAt Go.RowKit
set_option linter.unusedVariables false
namespace Tg

set_option maxRecDepth 10000 in
set_option maxHeartbeats 4000000 in
theorem sw_take0 {C : Code} (hC : C = swCode) {K : Act → World → Prop} {Q : Exit → Act → World → Prop} {w1 wc : World} {p k L B x fc : Nat} {fa : Option Addr} {s : Ar} {l : List Nat} {nf : Nat → Nat → Int} {f : Nat → Int} {is : Bool} 
    {z0 z1 z2 z3 z4 z6 z8 z11 z15 z16 z17 z18 z19 z20 z21 z22 z23 z24 z25 z26 z27 z28 z29 z30 z31 z32 z33 z34 z35 z36 z37 z38 z39 z40 z41 z42 z43 z44 z45 z46 z47 z48 z49 z50 z51 z52 z53 z54 z55 z56 z57 z58 z59 z60 z61 z62 z63 z64 z65 z66 z67 z68 z69 z70 z71 z72 z73 z74 z75 z76 z77 z78 z79 z80 z81 z82 z83 z84 z85 z86 z87 z88 z89 z90 z91 z92 z93 z94 z95 z96 z97 z98 z99 z100 z101 z102 z103 z104 z105 z106 z107 z108 z109 z110 z112 z113 z114 z115 z116 z117 z118 z119 z120 z121 z122 z123 z124 z125 z126 z127 z128 z129 z130 z131 z132 z133 z134 z135 z136 z137 z138 z139 z140 z141 z142 z143 z144 z145 z146 z147 z148 z149 z150 z151 z152 z153 z154 z155 z156 z157 z158 z159 z160 z161 z162 z163 z164 z165 z166 z167 z168 z169 z170 z171 z172 z173 z174 z175 z176 z177 z178 z179 z180 z181 z182 z183 z184 z185 z186 z187 z188 z189 z190 z191 z192 z193 z194 z195 z196 z197 z198 z199 z200 z201 z202 z203 z204 z205 z206 z207 z208 z209 z210 z211 z212 z213 z214 z215 z216 z217 z218 z219 z220 z221 z222 z223 z224 z225 z226 z227 z228 z229 z230 : Value}
    (hP5 : Pl w1 wc p k L (L + 1) s l nf fa fc) (h1 : 1 ≤ s.N) (h2 : s.N ≤ 512) (hx1000 : x ≤ 1000) (his : is = true ↔ (1 ≤ x ∧ x ≤ s.N ∧ s.live x = true))
    (c0 : wc.cell? ⟨B, 0, none⟩ = some (.int .i64 (f 0))) (c1 : wc.cell? ⟨B, 1, none⟩ = some (.int .i64 (x : Int))) (c2 : wc.cell? ⟨B, 2, none⟩ = some (.int .i64 (f 2))) (c3 : wc.cell? ⟨B, 3, none⟩ = some (.int .i64 (f 3))) (c4 : wc.cell? ⟨B, 4, none⟩ = some (.int .i64 (f 4)))
    (o0 : f 0 = 0) (hl : l = []) (hrest : ∀ (u4 u7 u15 u16 u17 u18 u19 u20 u73 u74 u75 u76 u77 u78 u79 u80 u81 u82 u83 u84 u85 u86 u87 u88 u89 u90 u91 u92 u93 u94 u95 u96 u97 u98 u99 u100 u101 u102 u103 u104 u105 u106 u107 u108 u109 u110 u111 u112 u113 u114 u115 u116 u117 u118 u119 u120 u121 u122 u123 u124 u125 u126 u127 u128 u129 u130 u131 u132 u133 u134 u135 u136 u137 u138 u139 u140 u141 u142 u143 u144 u145 u146 u147 u148 u149 u150 u151 u152 u153 u154 u155 u156 u157 u158 u159 u160 u161 u162 u163 u164 u165 u166 u167 u168 u169 u170 u171 u172 u173 u174 u175 u176 u177 u178 u179 u180 u181 u182 u183 u184 u185 u186 u187 u188 u189 u190 u191 u192 u193 u194 u195 u196 u197 u198 u199 u200 u201 u202 u203 u204 u205 u206 u207 u208 u209 u210 u211 u212 u213 u214 u215 u216 u217 u218 u219 u220 u221 u222 u223 u224 u225 u226 u227 u228 u229 u230 : Value) (wx : World), (∃ (s' : Ar) (l' : List Nat) (nf' : Nat → Nat → Int) (fa' : Option Addr) (fc' : Nat), u7 = .slice fa' l'.length fc' ∧ Hid (s'.N = s.N) ∧ Pl w1 wx p k L (L + 1) s' l' nf' fa' fc') → K ⟨List.toArray (z0 :: z1 :: z2 :: z3 :: u4 :: (Value.pointer (some ⟨p, 0, none⟩)) :: z6 :: u7 :: z8 :: (Value.slice (some ⟨L, 0, none⟩) (s.N + 1) (s.N + 1)) :: (Value.slice (some ⟨L + 1, 0, none⟩) (s.N + 1) (s.N + 1)) :: z11 :: (Value.pointer (some ⟨B, 0, none⟩)) :: (Value.int .u32 (x : Int)) :: (Value.bool is) :: u15 :: u16 :: u17 :: u18 :: u19 :: u20 :: z21 :: z22 :: z23 :: z24 :: z25 :: z26 :: z27 :: z28 :: z29 :: z30 :: z31 :: z32 :: z33 :: z34 :: z35 :: z36 :: z37 :: z38 :: z39 :: z40 :: z41 :: z42 :: z43 :: z44 :: z45 :: z46 :: z47 :: z48 :: z49 :: z50 :: z51 :: z52 :: z53 :: z54 :: z55 :: z56 :: z57 :: z58 :: z59 :: z60 :: z61 :: z62 :: z63 :: z64 :: z65 :: z66 :: z67 :: z68 :: z69 :: z70 :: z71 :: z72 :: u73 :: u74 :: u75 :: u76 :: u77 :: u78 :: u79 :: u80 :: u81 :: u82 :: u83 :: u84 :: u85 :: u86 :: u87 :: u88 :: u89 :: u90 :: u91 :: u92 :: u93 :: u94 :: u95 :: u96 :: u97 :: u98 :: u99 :: u100 :: u101 :: u102 :: u103 :: u104 :: u105 :: u106 :: u107 :: u108 :: u109 :: u110 :: u111 :: u112 :: u113 :: u114 :: u115 :: u116 :: u117 :: u118 :: u119 :: u120 :: u121 :: u122 :: u123 :: u124 :: u125 :: u126 :: u127 :: u128 :: u129 :: u130 :: u131 :: u132 :: u133 :: u134 :: u135 :: u136 :: u137 :: u138 :: u139 :: u140 :: u141 :: u142 :: u143 :: u144 :: u145 :: u146 :: u147 :: u148 :: u149 :: u150 :: u151 :: u152 :: u153 :: u154 :: u155 :: u156 :: u157 :: u158 :: u159 :: u160 :: u161 :: u162 :: u163 :: u164 :: u165 :: u166 :: u167 :: u168 :: u169 :: u170 :: u171 :: u172 :: u173 :: u174 :: u175 :: u176 :: u177 :: u178 :: u179 :: u180 :: u181 :: u182 :: u183 :: u184 :: u185 :: u186 :: u187 :: u188 :: u189 :: u190 :: u191 :: u192 :: u193 :: u194 :: u195 :: u196 :: u197 :: u198 :: u199 :: u200 :: u201 :: u202 :: u203 :: u204 :: u205 :: u206 :: u207 :: u208 :: u209 :: u210 :: u211 :: u212 :: u213 :: u214 :: u215 :: u216 :: u217 :: u218 :: u219 :: u220 :: u221 :: u222 :: u223 :: u224 :: u225 :: u226 :: u227 :: u228 :: u229 :: u230 :: []), []⟩ wx) :
    Code.wp Try.prog C (Exit.then K Q) ⟨List.toArray (z0 :: z1 :: z2 :: z3 :: z4 :: (Value.pointer (some ⟨p, 0, none⟩)) :: z6 :: (Value.slice fa l.length fc) :: z8 :: (Value.slice (some ⟨L, 0, none⟩) (s.N + 1) (s.N + 1)) :: (Value.slice (some ⟨L + 1, 0, none⟩) (s.N + 1) (s.N + 1)) :: z11 :: (Value.pointer (some ⟨B, 0, none⟩)) :: (Value.int .u32 (x : Int)) :: (Value.bool is) :: z15 :: z16 :: z17 :: z18 :: z19 :: z20 :: z21 :: z22 :: z23 :: z24 :: z25 :: z26 :: z27 :: z28 :: z29 :: z30 :: z31 :: z32 :: z33 :: z34 :: z35 :: z36 :: z37 :: z38 :: z39 :: z40 :: z41 :: z42 :: z43 :: z44 :: z45 :: z46 :: z47 :: z48 :: z49 :: z50 :: z51 :: z52 :: z53 :: z54 :: z55 :: z56 :: z57 :: z58 :: z59 :: z60 :: z61 :: z62 :: z63 :: z64 :: z65 :: z66 :: z67 :: z68 :: z69 :: z70 :: z71 :: z72 :: z73 :: z74 :: z75 :: z76 :: z77 :: z78 :: z79 :: z80 :: z81 :: z82 :: z83 :: z84 :: z85 :: z86 :: z87 :: z88 :: z89 :: z90 :: z91 :: z92 :: z93 :: z94 :: z95 :: z96 :: z97 :: z98 :: z99 :: z100 :: z101 :: z102 :: z103 :: z104 :: z105 :: z106 :: z107 :: z108 :: z109 :: z110 :: (Value.int .i64 (f 0)) :: z112 :: z113 :: z114 :: z115 :: z116 :: z117 :: z118 :: z119 :: z120 :: z121 :: z122 :: z123 :: z124 :: z125 :: z126 :: z127 :: z128 :: z129 :: z130 :: z131 :: z132 :: z133 :: z134 :: z135 :: z136 :: z137 :: z138 :: z139 :: z140 :: z141 :: z142 :: z143 :: z144 :: z145 :: z146 :: z147 :: z148 :: z149 :: z150 :: z151 :: z152 :: z153 :: z154 :: z155 :: z156 :: z157 :: z158 :: z159 :: z160 :: z161 :: z162 :: z163 :: z164 :: z165 :: z166 :: z167 :: z168 :: z169 :: z170 :: z171 :: z172 :: z173 :: z174 :: z175 :: z176 :: z177 :: z178 :: z179 :: z180 :: z181 :: z182 :: z183 :: z184 :: z185 :: z186 :: z187 :: z188 :: z189 :: z190 :: z191 :: z192 :: z193 :: z194 :: z195 :: z196 :: z197 :: z198 :: z199 :: z200 :: z201 :: z202 :: z203 :: z204 :: z205 :: z206 :: z207 :: z208 :: z209 :: z210 :: z211 :: z212 :: z213 :: z214 :: z215 :: z216 :: z217 :: z218 :: z219 :: z220 :: z221 :: z222 :: z223 :: z224 :: z225 :: z226 :: z227 :: z228 :: z229 :: z230 :: []), []⟩ wc := by
  subst hC
  have hcs := hP5.ar.ok.count
  have dx0 : ¬ (x : Int) < 0 := by omega
  have dx1 : ¬ (1000 : Int) < x := by omega
  change Code.wp Try.prog (Code.block 4 _) _ _ _
  go_cut [7] from 73 to 230 (fun v wx => ∃ (s' : Ar) (l' : List Nat) (nf' : Nat → Nat → Int) (fa' : Option Addr) (fc' : Nat), v = .slice fa' l'.length fc' ∧ Hid (s'.N = s.N) ∧ Pl w1 wx p k L (L + 1) s' l' nf' fa' fc')
  case first =>
    clear hrest
    subst hl
    rw [o0] at c0 ⊢
    have ht := take_none hP5.ar.mem hP5.ar.ok
    have hw := hP5
    clear hcs o0
    go_wp2_with fail
    refine ht.mono ?_
    rintro e w6 ⟨rfl, rfl⟩
    go_wp2_with fail
    go_meet
    exact ⟨s, [], nf, fa, fc, rfl, rfl, hw⟩
  case rest =>
    exact hrest _ _ _ _ _ _ _ _ _ _ _ _ _ _ _ _ _ _ _ _ _ _ _ _ _ _ _ _ _ _ _ _ _ _ _ _ _ _ _ _ _ _ _ _ _ _ _ _ _ _ _ _ _ _ _ _ _ _ _ _ _ _ _ _ _ _ _ _ _ _ _ _ _ _ _ _ _ _ _ _ _ _ _ _ _ _ _ _ _ _ _ _ _ _ _ _ _ _ _ _ _ _ _ _ _ _ _ _ _ _ _ _ _ _ _ _ _ _ _ _ _ _ _ _ _ _ _ _ _ _ _ _ _ _ _ _ _ _ _ _ _ _ _ _ _ _ _ _ _ _ _ _ _ _ _ _ _ _ _ _ _ _ _ _ _ _ _ hcut

set_option maxRecDepth 10000 in
set_option maxHeartbeats 4000000 in
theorem sw_take1 {C : Code} (hC : C = swCode) {K : Act → World → Prop} {Q : Exit → Act → World → Prop} {w1 wc : World} {p k L B x fc : Nat} {fa : Option Addr} {s : Ar} {l : List Nat} {nf : Nat → Nat → Int} {f : Nat → Int} {is : Bool} 
    {z0 z1 z2 z3 z4 z6 z8 z11 z15 z16 z17 z18 z19 z20 z21 z22 z23 z24 z25 z26 z27 z28 z29 z30 z31 z32 z33 z34 z35 z36 z37 z38 z39 z40 z41 z42 z43 z44 z45 z46 z47 z48 z49 z50 z51 z52 z53 z54 z55 z56 z57 z58 z59 z60 z61 z62 z63 z64 z65 z66 z67 z68 z69 z70 z71 z72 z73 z74 z75 z76 z77 z78 z79 z80 z81 z82 z83 z84 z85 z86 z87 z88 z89 z90 z91 z92 z93 z94 z95 z96 z97 z98 z99 z100 z101 z102 z103 z104 z105 z106 z107 z108 z109 z110 z112 z113 z114 z115 z116 z117 z118 z119 z120 z121 z122 z123 z124 z125 z126 z127 z128 z129 z130 z131 z132 z133 z134 z135 z136 z137 z138 z139 z140 z141 z142 z143 z144 z145 z146 z147 z148 z149 z150 z151 z152 z153 z154 z155 z156 z157 z158 z159 z160 z161 z162 z163 z164 z165 z166 z167 z168 z169 z170 z171 z172 z173 z174 z175 z176 z177 z178 z179 z180 z181 z182 z183 z184 z185 z186 z187 z188 z189 z190 z191 z192 z193 z194 z195 z196 z197 z198 z199 z200 z201 z202 z203 z204 z205 z206 z207 z208 z209 z210 z211 z212 z213 z214 z215 z216 z217 z218 z219 z220 z221 z222 z223 z224 z225 z226 z227 z228 z229 z230 : Value}
    (hP5 : Pl w1 wc p k L (L + 1) s l nf fa fc) (h1 : 1 ≤ s.N) (h2 : s.N ≤ 512) (hx1000 : x ≤ 1000) (his : is = true ↔ (1 ≤ x ∧ x ≤ s.N ∧ s.live x = true))
    (c0 : wc.cell? ⟨B, 0, none⟩ = some (.int .i64 (f 0))) (c1 : wc.cell? ⟨B, 1, none⟩ = some (.int .i64 (x : Int))) (c2 : wc.cell? ⟨B, 2, none⟩ = some (.int .i64 (f 2))) (c3 : wc.cell? ⟨B, 3, none⟩ = some (.int .i64 (f 3))) (c4 : wc.cell? ⟨B, 4, none⟩ = some (.int .i64 (f 4)))
    (o0 : f 0 = 0) (y : Nat) (r : List Nat) (hl : l = y :: r) (hrest : ∀ (u4 u7 u15 u16 u17 u18 u19 u20 u73 u74 u75 u76 u77 u78 u79 u80 u81 u82 u83 u84 u85 u86 u87 u88 u89 u90 u91 u92 u93 u94 u95 u96 u97 u98 u99 u100 u101 u102 u103 u104 u105 u106 u107 u108 u109 u110 u111 u112 u113 u114 u115 u116 u117 u118 u119 u120 u121 u122 u123 u124 u125 u126 u127 u128 u129 u130 u131 u132 u133 u134 u135 u136 u137 u138 u139 u140 u141 u142 u143 u144 u145 u146 u147 u148 u149 u150 u151 u152 u153 u154 u155 u156 u157 u158 u159 u160 u161 u162 u163 u164 u165 u166 u167 u168 u169 u170 u171 u172 u173 u174 u175 u176 u177 u178 u179 u180 u181 u182 u183 u184 u185 u186 u187 u188 u189 u190 u191 u192 u193 u194 u195 u196 u197 u198 u199 u200 u201 u202 u203 u204 u205 u206 u207 u208 u209 u210 u211 u212 u213 u214 u215 u216 u217 u218 u219 u220 u221 u222 u223 u224 u225 u226 u227 u228 u229 u230 : Value) (wx : World), (∃ (s' : Ar) (l' : List Nat) (nf' : Nat → Nat → Int) (fa' : Option Addr) (fc' : Nat), u7 = .slice fa' l'.length fc' ∧ Hid (s'.N = s.N) ∧ Pl w1 wx p k L (L + 1) s' l' nf' fa' fc') → K ⟨List.toArray (z0 :: z1 :: z2 :: z3 :: u4 :: (Value.pointer (some ⟨p, 0, none⟩)) :: z6 :: u7 :: z8 :: (Value.slice (some ⟨L, 0, none⟩) (s.N + 1) (s.N + 1)) :: (Value.slice (some ⟨L + 1, 0, none⟩) (s.N + 1) (s.N + 1)) :: z11 :: (Value.pointer (some ⟨B, 0, none⟩)) :: (Value.int .u32 (x : Int)) :: (Value.bool is) :: u15 :: u16 :: u17 :: u18 :: u19 :: u20 :: z21 :: z22 :: z23 :: z24 :: z25 :: z26 :: z27 :: z28 :: z29 :: z30 :: z31 :: z32 :: z33 :: z34 :: z35 :: z36 :: z37 :: z38 :: z39 :: z40 :: z41 :: z42 :: z43 :: z44 :: z45 :: z46 :: z47 :: z48 :: z49 :: z50 :: z51 :: z52 :: z53 :: z54 :: z55 :: z56 :: z57 :: z58 :: z59 :: z60 :: z61 :: z62 :: z63 :: z64 :: z65 :: z66 :: z67 :: z68 :: z69 :: z70 :: z71 :: z72 :: u73 :: u74 :: u75 :: u76 :: u77 :: u78 :: u79 :: u80 :: u81 :: u82 :: u83 :: u84 :: u85 :: u86 :: u87 :: u88 :: u89 :: u90 :: u91 :: u92 :: u93 :: u94 :: u95 :: u96 :: u97 :: u98 :: u99 :: u100 :: u101 :: u102 :: u103 :: u104 :: u105 :: u106 :: u107 :: u108 :: u109 :: u110 :: u111 :: u112 :: u113 :: u114 :: u115 :: u116 :: u117 :: u118 :: u119 :: u120 :: u121 :: u122 :: u123 :: u124 :: u125 :: u126 :: u127 :: u128 :: u129 :: u130 :: u131 :: u132 :: u133 :: u134 :: u135 :: u136 :: u137 :: u138 :: u139 :: u140 :: u141 :: u142 :: u143 :: u144 :: u145 :: u146 :: u147 :: u148 :: u149 :: u150 :: u151 :: u152 :: u153 :: u154 :: u155 :: u156 :: u157 :: u158 :: u159 :: u160 :: u161 :: u162 :: u163 :: u164 :: u165 :: u166 :: u167 :: u168 :: u169 :: u170 :: u171 :: u172 :: u173 :: u174 :: u175 :: u176 :: u177 :: u178 :: u179 :: u180 :: u181 :: u182 :: u183 :: u184 :: u185 :: u186 :: u187 :: u188 :: u189 :: u190 :: u191 :: u192 :: u193 :: u194 :: u195 :: u196 :: u197 :: u198 :: u199 :: u200 :: u201 :: u202 :: u203 :: u204 :: u205 :: u206 :: u207 :: u208 :: u209 :: u210 :: u211 :: u212 :: u213 :: u214 :: u215 :: u216 :: u217 :: u218 :: u219 :: u220 :: u221 :: u222 :: u223 :: u224 :: u225 :: u226 :: u227 :: u228 :: u229 :: u230 :: []), []⟩ wx) :
    Code.wp Try.prog C (Exit.then K Q) ⟨List.toArray (z0 :: z1 :: z2 :: z3 :: z4 :: (Value.pointer (some ⟨p, 0, none⟩)) :: z6 :: (Value.slice fa l.length fc) :: z8 :: (Value.slice (some ⟨L, 0, none⟩) (s.N + 1) (s.N + 1)) :: (Value.slice (some ⟨L + 1, 0, none⟩) (s.N + 1) (s.N + 1)) :: z11 :: (Value.pointer (some ⟨B, 0, none⟩)) :: (Value.int .u32 (x : Int)) :: (Value.bool is) :: z15 :: z16 :: z17 :: z18 :: z19 :: z20 :: z21 :: z22 :: z23 :: z24 :: z25 :: z26 :: z27 :: z28 :: z29 :: z30 :: z31 :: z32 :: z33 :: z34 :: z35 :: z36 :: z37 :: z38 :: z39 :: z40 :: z41 :: z42 :: z43 :: z44 :: z45 :: z46 :: z47 :: z48 :: z49 :: z50 :: z51 :: z52 :: z53 :: z54 :: z55 :: z56 :: z57 :: z58 :: z59 :: z60 :: z61 :: z62 :: z63 :: z64 :: z65 :: z66 :: z67 :: z68 :: z69 :: z70 :: z71 :: z72 :: z73 :: z74 :: z75 :: z76 :: z77 :: z78 :: z79 :: z80 :: z81 :: z82 :: z83 :: z84 :: z85 :: z86 :: z87 :: z88 :: z89 :: z90 :: z91 :: z92 :: z93 :: z94 :: z95 :: z96 :: z97 :: z98 :: z99 :: z100 :: z101 :: z102 :: z103 :: z104 :: z105 :: z106 :: z107 :: z108 :: z109 :: z110 :: (Value.int .i64 (f 0)) :: z112 :: z113 :: z114 :: z115 :: z116 :: z117 :: z118 :: z119 :: z120 :: z121 :: z122 :: z123 :: z124 :: z125 :: z126 :: z127 :: z128 :: z129 :: z130 :: z131 :: z132 :: z133 :: z134 :: z135 :: z136 :: z137 :: z138 :: z139 :: z140 :: z141 :: z142 :: z143 :: z144 :: z145 :: z146 :: z147 :: z148 :: z149 :: z150 :: z151 :: z152 :: z153 :: z154 :: z155 :: z156 :: z157 :: z158 :: z159 :: z160 :: z161 :: z162 :: z163 :: z164 :: z165 :: z166 :: z167 :: z168 :: z169 :: z170 :: z171 :: z172 :: z173 :: z174 :: z175 :: z176 :: z177 :: z178 :: z179 :: z180 :: z181 :: z182 :: z183 :: z184 :: z185 :: z186 :: z187 :: z188 :: z189 :: z190 :: z191 :: z192 :: z193 :: z194 :: z195 :: z196 :: z197 :: z198 :: z199 :: z200 :: z201 :: z202 :: z203 :: z204 :: z205 :: z206 :: z207 :: z208 :: z209 :: z210 :: z211 :: z212 :: z213 :: z214 :: z215 :: z216 :: z217 :: z218 :: z219 :: z220 :: z221 :: z222 :: z223 :: z224 :: z225 :: z226 :: z227 :: z228 :: z229 :: z230 :: []), []⟩ wc := by
  subst hC
  have hcs := hP5.ar.ok.count
  have dx0 : ¬ (x : Int) < 0 := by omega
  have dx1 : ¬ (1000 : Int) < x := by omega
  change Code.wp Try.prog (Code.block 4 _) _ _ _
  go_cut [7] from 73 to 230 (fun v wx => ∃ (s' : Ar) (l' : List Nat) (nf' : Nat → Nat → Int) (fa' : Option Addr) (fc' : Nat), v = .slice fa' l'.length fc' ∧ Hid (s'.N = s.N) ∧ Pl w1 wx p k L (L + 1) s' l' nf' fa' fc')
  case first =>
    clear hrest
    subst hl
    rw [o0] at c0 ⊢
    obtain ⟨b', o', rfl, hcell, hcap1, hcap2, hrow', hb1, hb2, hb3, hb4, hb5⟩ := hP5.head
    have hy := hP5.ar.ok.range y (by simp)
    have ht := hP5.ar.take
    clear hcs o0
    go_wp2_with fail
    refine ht.mono ?_
    rintro e w6 ⟨rfl, hm6, hk6⟩
    clear ht
    have cb6 : w6.cell? ⟨b', o', none⟩ = some (.int .u32 (y : Int)) := by
      rw [World.cell?_of_block (w := wc) (a := ⟨b', o', none⟩) (hk6.block b' (World.block_lt_of_cell? wc _ hcell) (by simp [Own]; omega))]; exact hcell
    obtain ⟨⟨cL, fL⟩, w8, hst8, hfinal⟩ := hP5.took hm6 hk6
    rw [node0] at hst8
    have dy : (y : Int) < (s.N : Int) + 1 := by omega
    have dr : ¬ (r.length : Int) + 1 = 0 := by omega
    clear hk6 hm6 hP5 hcell c0 c1
    by_cases hfc : fc = 1
    · subst hfc
      obtain rfl : r = [] := List.eq_nil_of_length_eq_zero (by omega)
      have hP8 := hfinal (some ⟨b', o', none⟩) 0 ⟨rfl, by simp, by omega, by simp [ints], Or.inl rfl⟩ (by rintro b'' o'' e; simp only [Option.some.injEq, Addr.mk.injEq, and_true] at e; obtain ⟨rfl, rfl⟩ := e; exact ⟨hb1, hb2, hb3, hb4, hb5⟩)
      have hw := hP8
      clear hfinal hrow' hP8
      go_wp2_with (guard_target =~ wpList _ _ _ (Oper.mk _ (Op.store 40 _ _) _ _ _ _ :: _) _ _; refine wpList_store_run rfl 40 (.tmp 175) (.tmp 174) rfl (by rfl) (by rfl) hst8 ?_)
      go_meet
      exact ⟨s.take, [], _, _, 0, rfl, rfl, hw⟩
    · have hP8 := hfinal (some ⟨b', o' + 1, none⟩) (fc - 1) hrow' (by rintro b'' o'' e; simp only [Option.some.injEq, Addr.mk.injEq, and_true] at e; obtain ⟨rfl, rfl⟩ := e; exact ⟨hb1, hb2, hb3, hb4, hb5⟩)
      have hw := hP8
      clear hfinal hrow' hP8
      go_wp2_with (guard_target =~ wpList _ _ _ (Oper.mk _ (Op.store 40 _ _) _ _ _ _ :: _) _ _; refine wpList_store_run rfl 40 (.tmp 175) (.tmp 174) rfl (by rfl) (by rfl) hst8 ?_)
      go_meet
      exact ⟨s.take, r, _, _, fc - 1, rfl, rfl, hw⟩
  case rest =>
    exact hrest _ _ _ _ _ _ _ _ _ _ _ _ _ _ _ _ _ _ _ _ _ _ _ _ _ _ _ _ _ _ _ _ _ _ _ _ _ _ _ _ _ _ _ _ _ _ _ _ _ _ _ _ _ _ _ _ _ _ _ _ _ _ _ _ _ _ _ _ _ _ _ _ _ _ _ _ _ _ _ _ _ _ _ _ _ _ _ _ _ _ _ _ _ _ _ _ _ _ _ _ _ _ _ _ _ _ _ _ _ _ _ _ _ _ _ _ _ _ _ _ _ _ _ _ _ _ _ _ _ _ _ _ _ _ _ _ _ _ _ _ _ _ _ _ _ _ _ _ _ _ _ _ _ _ _ _ _ _ _ _ _ _ _ _ _ _ _ hcut

end Tg
end Go.Proofs.Ytdeepmifolaenaa
