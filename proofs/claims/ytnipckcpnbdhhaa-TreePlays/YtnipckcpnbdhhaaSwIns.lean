/-
  Insert, as the statement TreePlays holds it against its own list.
-/
import Derived.Test.YtnipckcpnbdhhaaSw
namespace Go.Proofs.Ytnipckcpnbdhhaa
open Go.ChangeShapes Go.WideShapes Go.ChangeAt Go.RowKit
set_option linter.unusedVariables false
namespace Tg

theorem Mt.mine' {w wr : World} {b p k N : Nat} {l : List Nat} {t : Tr} (h : Mt w wr b p k N l t) : ∀ x, Own3 b p k x → w.heap.size ≤ x := by
  rintro x (e | e | e)
  · rw [e]; exact h.b
  · rw [e]; exact h.p
  · rw [e]; exact h.k

set_option maxRecDepth 10000 in
set_option maxHeartbeats 4000000 in
theorem sw_ins1 {C : Code} (hC : C = swCode) {K : Act → World → Prop} {Q : Exit → Act → World → Prop} {w0 wc : World} {b p k N B G cap : Nat} {a : Option Addr} {m : List Rn} {r : Rn} {kk op : Int}
    {z1 z2 z3 z4 z5 z6 z8 z11 z15 z16 z17 z18 z19 z20 z21 z22 z23 z24 z25 z26 z27 z28 z29 z30 z31 z32 z33 z34 z35 z36 z37 z38 z39 z40 z41 z42 z43 z44 z45 z46 z47 z48 z49 z50 z51 z52 z53 z54 z55 z56 z57 z58 z59 z60 z61 z63 z64 z65 z66 z67 z68 z69 z70 z71 z72 z73 z74 z75 z76 z77 z78 z79 z80 z81 z82 z83 z84 z85 z86 z87 z88 z89 z90 z91 z92 z93 z94 z95 z96 z97 z98 z99 z100 z101 z102 z103 z104 z105 z106 z107 z108 z109 z110 z111 z112 z113 z114 z115 z116 z117 z118 z119 z120 z121 z122 z123 z124 z125 z126 z127 z128 z129 z130 z131 z132 z133 z134 z135 z136 z137 z138 z139 z140 z141 z142 z143 z144 z145 z146 z147 z148 z149 z150 z151 z152 z153 z154 z155 z156 z157 z158 z159 z160 z161 z162 z163 z164 z165 z166 z167 z168 z169 z170 z171 z172 z173 z174 z175 z176 z177 z178 z179 z180 z181 : Value}
    (hP : Ps w0 wc b p k N a cap m) (hN1 : 1 ≤ N) (hN2 : N ≤ 60) (cB : wc.cell? ⟨B, 1, none⟩ = some (.int .i64 r.lba)) (hG : Lrn wc G r) (hBo : ¬ Own3 b p k B) (hGo : ¬ Own3 b p k G) (hgB : ∀ g, a = some ⟨g, 0, none⟩ → g ≠ B ∧ g ≠ G) (hkk : kk = atL r.lba m)
    (o0 : op = 0) (hk0 : ∃ i : Nat, kk = (i : Int)) (hx : ∃ l t, Mt w0 wc b p k N l t ∧ t.runs = m ∧ t.idOf r.lba ≠ 0) (hrest : ∀ (u6 u10 u15 u16 u17 u40 u41 u42 u43 u44 u45 u46 u47 u48 u49 u50 u51 u52 u53 u54 u55 u56 u57 u58 u59 u60 u61 u62 u63 u64 u65 u66 u67 u68 u69 u70 u71 u72 u73 u74 u75 u76 u77 u78 u79 u80 u81 u82 u83 u84 u85 u86 u87 u88 u89 u90 u91 u92 u93 u94 u95 u96 u97 u98 u99 u100 u101 u102 u103 u104 u105 u106 u107 u108 u109 u110 u111 u112 u113 u114 u115 u116 u117 u118 u119 u120 u121 u122 u123 u124 u125 u126 u127 u128 u129 u130 u131 u132 u133 u134 u135 u136 u137 u138 u139 u140 u141 u142 u143 u144 u145 u146 u147 u148 u149 u150 u151 u152 u153 u154 u155 u156 u157 u158 u159 u160 u161 u162 u163 u164 u165 u166 u167 u168 u169 u170 u171 u172 u173 u174 u175 u176 u177 u178 u179 u180 u181 : Value) (wx : World), (∃ (a' : Option Addr) (cap' : Nat) (m' : List Rn), u10 = .slice a' m'.length cap' ∧ Ps w0 wx b p k N a' cap' m' ∧ wx.cell? ⟨B, 1, none⟩ = some (.int .i64 r.lba)) → K ⟨List.toArray ((Value.int .i64 (N : Int)) :: z1 :: z2 :: z3 :: z4 :: z5 :: u6 :: (Value.pointer (some ⟨p, 0, none⟩)) :: z8 :: (Value.pointer (some ⟨b, 0, none⟩)) :: u10 :: z11 :: (Value.pointer (some ⟨B, 0, none⟩)) :: (Value.pointer (some ⟨G, 0, none⟩)) :: (Value.int .i64 kk) :: u15 :: u16 :: u17 :: z18 :: z19 :: z20 :: z21 :: z22 :: z23 :: z24 :: z25 :: z26 :: z27 :: z28 :: z29 :: z30 :: z31 :: z32 :: z33 :: z34 :: z35 :: z36 :: z37 :: z38 :: z39 :: u40 :: u41 :: u42 :: u43 :: u44 :: u45 :: u46 :: u47 :: u48 :: u49 :: u50 :: u51 :: u52 :: u53 :: u54 :: u55 :: u56 :: u57 :: u58 :: u59 :: u60 :: u61 :: u62 :: u63 :: u64 :: u65 :: u66 :: u67 :: u68 :: u69 :: u70 :: u71 :: u72 :: u73 :: u74 :: u75 :: u76 :: u77 :: u78 :: u79 :: u80 :: u81 :: u82 :: u83 :: u84 :: u85 :: u86 :: u87 :: u88 :: u89 :: u90 :: u91 :: u92 :: u93 :: u94 :: u95 :: u96 :: u97 :: u98 :: u99 :: u100 :: u101 :: u102 :: u103 :: u104 :: u105 :: u106 :: u107 :: u108 :: u109 :: u110 :: u111 :: u112 :: u113 :: u114 :: u115 :: u116 :: u117 :: u118 :: u119 :: u120 :: u121 :: u122 :: u123 :: u124 :: u125 :: u126 :: u127 :: u128 :: u129 :: u130 :: u131 :: u132 :: u133 :: u134 :: u135 :: u136 :: u137 :: u138 :: u139 :: u140 :: u141 :: u142 :: u143 :: u144 :: u145 :: u146 :: u147 :: u148 :: u149 :: u150 :: u151 :: u152 :: u153 :: u154 :: u155 :: u156 :: u157 :: u158 :: u159 :: u160 :: u161 :: u162 :: u163 :: u164 :: u165 :: u166 :: u167 :: u168 :: u169 :: u170 :: u171 :: u172 :: u173 :: u174 :: u175 :: u176 :: u177 :: u178 :: u179 :: u180 :: u181 :: []), []⟩ wx) :
    Code.wp Try.prog C (Exit.then K Q) ⟨List.toArray ((Value.int .i64 (N : Int)) :: z1 :: z2 :: z3 :: z4 :: z5 :: z6 :: (Value.pointer (some ⟨p, 0, none⟩)) :: z8 :: (Value.pointer (some ⟨b, 0, none⟩)) :: (Value.slice a m.length cap) :: z11 :: (Value.pointer (some ⟨B, 0, none⟩)) :: (Value.pointer (some ⟨G, 0, none⟩)) :: (Value.int .i64 kk) :: z15 :: z16 :: z17 :: z18 :: z19 :: z20 :: z21 :: z22 :: z23 :: z24 :: z25 :: z26 :: z27 :: z28 :: z29 :: z30 :: z31 :: z32 :: z33 :: z34 :: z35 :: z36 :: z37 :: z38 :: z39 :: z40 :: z41 :: z42 :: z43 :: z44 :: z45 :: z46 :: z47 :: z48 :: z49 :: z50 :: z51 :: z52 :: z53 :: z54 :: z55 :: z56 :: z57 :: z58 :: z59 :: z60 :: z61 :: (Value.int .i64 op) :: z63 :: z64 :: z65 :: z66 :: z67 :: z68 :: z69 :: z70 :: z71 :: z72 :: z73 :: z74 :: z75 :: z76 :: z77 :: z78 :: z79 :: z80 :: z81 :: z82 :: z83 :: z84 :: z85 :: z86 :: z87 :: z88 :: z89 :: z90 :: z91 :: z92 :: z93 :: z94 :: z95 :: z96 :: z97 :: z98 :: z99 :: z100 :: z101 :: z102 :: z103 :: z104 :: z105 :: z106 :: z107 :: z108 :: z109 :: z110 :: z111 :: z112 :: z113 :: z114 :: z115 :: z116 :: z117 :: z118 :: z119 :: z120 :: z121 :: z122 :: z123 :: z124 :: z125 :: z126 :: z127 :: z128 :: z129 :: z130 :: z131 :: z132 :: z133 :: z134 :: z135 :: z136 :: z137 :: z138 :: z139 :: z140 :: z141 :: z142 :: z143 :: z144 :: z145 :: z146 :: z147 :: z148 :: z149 :: z150 :: z151 :: z152 :: z153 :: z154 :: z155 :: z156 :: z157 :: z158 :: z159 :: z160 :: z161 :: z162 :: z163 :: z164 :: z165 :: z166 :: z167 :: z168 :: z169 :: z170 :: z171 :: z172 :: z173 :: z174 :: z175 :: z176 :: z177 :: z178 :: z179 :: z180 :: z181 :: []), []⟩ wc := by
  subst hC
  have hlen := hP.len
  have d0 : (m.length : Int) ≤ 9223372036854775807 := by omega
  change Code.wp Try.prog (Code.block 2 _) _ _ _
  go_cut [10] from 40 to 181 (fun v wx => ∃ (a' : Option Addr) (cap' : Nat) (m' : List Rn), v = .slice a' m'.length cap' ∧ Ps w0 wx b p k N a' cap' m' ∧ wx.cell? ⟨B, 1, none⟩ = some (.int .i64 r.lba))
  case first =>
    clear hrest
    obtain ⟨l, t, hM, ht, hz⟩ := hx
    have hcall := hM.insertOld r hz
    rw [rnA_lit] at hcall
    obtain ⟨i, hi⟩ : ∃ i : Nat, kk = (i : Int) := hk0
    subst hi o0
    have q0 := (hG 0 (by omega)).1
    have q1 := (hG 1 (by omega)).1
    have q2 := (hG 2 (by omega)).1
    simp only [rcell] at q0 q1 q2
    have d1 : (0 : Int) ≤ (i : Int) := by omega
    have d2 : ¬ (i : Int) < 0 := by omega
    clear hkk hgB hG hM ht hz
    go_wp2_with fail
    refine hcall.mono ?_
    rintro e w6 ⟨rfl, k6⟩
    have F := hP.more k6
    have cB6 := cell_keep cB k6 (fun e => e)
    clear hcall hP cB q0 q1 q2
    go_wp2_with fail
    go_meet
    exact ⟨a, cap, m, rfl, F, cB6⟩
  case rest =>
    exact hrest _ _ _ _ _ _ _ _ _ _ _ _ _ _ _ _ _ _ _ _ _ _ _ _ _ _ _ _ _ _ _ _ _ _ _ _ _ _ _ _ _ _ _ _ _ _ _ _ _ _ _ _ _ _ _ _ _ _ _ _ _ _ _ _ _ _ _ _ _ _ _ _ _ _ _ _ _ _ _ _ _ _ _ _ _ _ _ _ _ _ _ _ _ _ _ _ _ _ _ _ _ _ _ _ _ _ _ _ _ _ _ _ _ _ _ _ _ _ _ _ _ _ _ _ _ _ _ _ _ _ _ _ _ _ _ _ _ _ _ _ _ _ _ _ _ _ _ _ hcut

set_option maxRecDepth 10000 in
set_option maxHeartbeats 4000000 in
theorem sw_ins5 {C : Code} (hC : C = swCode) {K : Act → World → Prop} {Q : Exit → Act → World → Prop} {w0 wc : World} {b p k N B G cap : Nat} {a : Option Addr} {m : List Rn} {r : Rn} {kk op : Int}
    {z1 z2 z3 z4 z5 z6 z8 z11 z15 z16 z17 z18 z19 z20 z21 z22 z23 z24 z25 z26 z27 z28 z29 z30 z31 z32 z33 z34 z35 z36 z37 z38 z39 z40 z41 z42 z43 z44 z45 z46 z47 z48 z49 z50 z51 z52 z53 z54 z55 z56 z57 z58 z59 z60 z61 z63 z64 z65 z66 z67 z68 z69 z70 z71 z72 z73 z74 z75 z76 z77 z78 z79 z80 z81 z82 z83 z84 z85 z86 z87 z88 z89 z90 z91 z92 z93 z94 z95 z96 z97 z98 z99 z100 z101 z102 z103 z104 z105 z106 z107 z108 z109 z110 z111 z112 z113 z114 z115 z116 z117 z118 z119 z120 z121 z122 z123 z124 z125 z126 z127 z128 z129 z130 z131 z132 z133 z134 z135 z136 z137 z138 z139 z140 z141 z142 z143 z144 z145 z146 z147 z148 z149 z150 z151 z152 z153 z154 z155 z156 z157 z158 z159 z160 z161 z162 z163 z164 z165 z166 z167 z168 z169 z170 z171 z172 z173 z174 z175 z176 z177 z178 z179 z180 z181 : Value}
    (hP : Ps w0 wc b p k N a cap m) (hN1 : 1 ≤ N) (hN2 : N ≤ 60) (cB : wc.cell? ⟨B, 1, none⟩ = some (.int .i64 r.lba)) (hG : Lrn wc G r) (hBo : ¬ Own3 b p k B) (hGo : ¬ Own3 b p k G) (hgB : ∀ g, a = some ⟨g, 0, none⟩ → g ≠ B ∧ g ≠ G) (hkk : kk = atL r.lba m)
    (o0 : op = 0) (hk0 : kk = -1) (hx : ∃ t, Mt w0 wc b p k N [] t ∧ t.runs = m ∧ t.idOf r.lba = 0) (hrest : ∀ (u6 u10 u15 u16 u17 u40 u41 u42 u43 u44 u45 u46 u47 u48 u49 u50 u51 u52 u53 u54 u55 u56 u57 u58 u59 u60 u61 u62 u63 u64 u65 u66 u67 u68 u69 u70 u71 u72 u73 u74 u75 u76 u77 u78 u79 u80 u81 u82 u83 u84 u85 u86 u87 u88 u89 u90 u91 u92 u93 u94 u95 u96 u97 u98 u99 u100 u101 u102 u103 u104 u105 u106 u107 u108 u109 u110 u111 u112 u113 u114 u115 u116 u117 u118 u119 u120 u121 u122 u123 u124 u125 u126 u127 u128 u129 u130 u131 u132 u133 u134 u135 u136 u137 u138 u139 u140 u141 u142 u143 u144 u145 u146 u147 u148 u149 u150 u151 u152 u153 u154 u155 u156 u157 u158 u159 u160 u161 u162 u163 u164 u165 u166 u167 u168 u169 u170 u171 u172 u173 u174 u175 u176 u177 u178 u179 u180 u181 : Value) (wx : World), (∃ (a' : Option Addr) (cap' : Nat) (m' : List Rn), u10 = .slice a' m'.length cap' ∧ Ps w0 wx b p k N a' cap' m' ∧ wx.cell? ⟨B, 1, none⟩ = some (.int .i64 r.lba)) → K ⟨List.toArray ((Value.int .i64 (N : Int)) :: z1 :: z2 :: z3 :: z4 :: z5 :: u6 :: (Value.pointer (some ⟨p, 0, none⟩)) :: z8 :: (Value.pointer (some ⟨b, 0, none⟩)) :: u10 :: z11 :: (Value.pointer (some ⟨B, 0, none⟩)) :: (Value.pointer (some ⟨G, 0, none⟩)) :: (Value.int .i64 kk) :: u15 :: u16 :: u17 :: z18 :: z19 :: z20 :: z21 :: z22 :: z23 :: z24 :: z25 :: z26 :: z27 :: z28 :: z29 :: z30 :: z31 :: z32 :: z33 :: z34 :: z35 :: z36 :: z37 :: z38 :: z39 :: u40 :: u41 :: u42 :: u43 :: u44 :: u45 :: u46 :: u47 :: u48 :: u49 :: u50 :: u51 :: u52 :: u53 :: u54 :: u55 :: u56 :: u57 :: u58 :: u59 :: u60 :: u61 :: u62 :: u63 :: u64 :: u65 :: u66 :: u67 :: u68 :: u69 :: u70 :: u71 :: u72 :: u73 :: u74 :: u75 :: u76 :: u77 :: u78 :: u79 :: u80 :: u81 :: u82 :: u83 :: u84 :: u85 :: u86 :: u87 :: u88 :: u89 :: u90 :: u91 :: u92 :: u93 :: u94 :: u95 :: u96 :: u97 :: u98 :: u99 :: u100 :: u101 :: u102 :: u103 :: u104 :: u105 :: u106 :: u107 :: u108 :: u109 :: u110 :: u111 :: u112 :: u113 :: u114 :: u115 :: u116 :: u117 :: u118 :: u119 :: u120 :: u121 :: u122 :: u123 :: u124 :: u125 :: u126 :: u127 :: u128 :: u129 :: u130 :: u131 :: u132 :: u133 :: u134 :: u135 :: u136 :: u137 :: u138 :: u139 :: u140 :: u141 :: u142 :: u143 :: u144 :: u145 :: u146 :: u147 :: u148 :: u149 :: u150 :: u151 :: u152 :: u153 :: u154 :: u155 :: u156 :: u157 :: u158 :: u159 :: u160 :: u161 :: u162 :: u163 :: u164 :: u165 :: u166 :: u167 :: u168 :: u169 :: u170 :: u171 :: u172 :: u173 :: u174 :: u175 :: u176 :: u177 :: u178 :: u179 :: u180 :: u181 :: []), []⟩ wx) :
    Code.wp Try.prog C (Exit.then K Q) ⟨List.toArray ((Value.int .i64 (N : Int)) :: z1 :: z2 :: z3 :: z4 :: z5 :: z6 :: (Value.pointer (some ⟨p, 0, none⟩)) :: z8 :: (Value.pointer (some ⟨b, 0, none⟩)) :: (Value.slice a m.length cap) :: z11 :: (Value.pointer (some ⟨B, 0, none⟩)) :: (Value.pointer (some ⟨G, 0, none⟩)) :: (Value.int .i64 kk) :: z15 :: z16 :: z17 :: z18 :: z19 :: z20 :: z21 :: z22 :: z23 :: z24 :: z25 :: z26 :: z27 :: z28 :: z29 :: z30 :: z31 :: z32 :: z33 :: z34 :: z35 :: z36 :: z37 :: z38 :: z39 :: z40 :: z41 :: z42 :: z43 :: z44 :: z45 :: z46 :: z47 :: z48 :: z49 :: z50 :: z51 :: z52 :: z53 :: z54 :: z55 :: z56 :: z57 :: z58 :: z59 :: z60 :: z61 :: (Value.int .i64 op) :: z63 :: z64 :: z65 :: z66 :: z67 :: z68 :: z69 :: z70 :: z71 :: z72 :: z73 :: z74 :: z75 :: z76 :: z77 :: z78 :: z79 :: z80 :: z81 :: z82 :: z83 :: z84 :: z85 :: z86 :: z87 :: z88 :: z89 :: z90 :: z91 :: z92 :: z93 :: z94 :: z95 :: z96 :: z97 :: z98 :: z99 :: z100 :: z101 :: z102 :: z103 :: z104 :: z105 :: z106 :: z107 :: z108 :: z109 :: z110 :: z111 :: z112 :: z113 :: z114 :: z115 :: z116 :: z117 :: z118 :: z119 :: z120 :: z121 :: z122 :: z123 :: z124 :: z125 :: z126 :: z127 :: z128 :: z129 :: z130 :: z131 :: z132 :: z133 :: z134 :: z135 :: z136 :: z137 :: z138 :: z139 :: z140 :: z141 :: z142 :: z143 :: z144 :: z145 :: z146 :: z147 :: z148 :: z149 :: z150 :: z151 :: z152 :: z153 :: z154 :: z155 :: z156 :: z157 :: z158 :: z159 :: z160 :: z161 :: z162 :: z163 :: z164 :: z165 :: z166 :: z167 :: z168 :: z169 :: z170 :: z171 :: z172 :: z173 :: z174 :: z175 :: z176 :: z177 :: z178 :: z179 :: z180 :: z181 :: []), []⟩ wc := by
  subst hC
  have hlen := hP.len
  have d0 : (m.length : Int) ≤ 9223372036854775807 := by omega
  change Code.wp Try.prog (Code.block 2 _) _ _ _
  go_cut [10] from 40 to 181 (fun v wx => ∃ (a' : Option Addr) (cap' : Nat) (m' : List Rn), v = .slice a' m'.length cap' ∧ Ps w0 wx b p k N a' cap' m' ∧ wx.cell? ⟨B, 1, none⟩ = some (.int .i64 r.lba))
  case first =>
    clear hrest
    obtain ⟨t, hM, ht, hz⟩ := hx
    have hcall := hM.insertFull r hz
    rw [rnA_lit] at hcall
    have hroom := hM.room
    have hml : m.length = N := by rw [← ht, ← Tr.views_runs, List.length_map]; simpa using hroom
    subst hk0 o0
    have q0 := (hG 0 (by omega)).1
    have q1 := (hG 1 (by omega)).1
    have q2 := (hG 2 (by omega)).1
    simp only [rcell] at q0 q1 q2
    have d1 : (N : Int) ≤ (m.length : Int) := by omega
    have d2 : ¬ (m.length : Int) < (N : Int) := by omega
    have hml' : Hid (m.length = N) := hml
    clear hkk hgB hG hM ht hz hml hroom hlen
    go_wp2_with fail
    refine hcall.mono ?_
    rintro e w6 ⟨rfl, k6⟩
    have F := hP.more k6
    have cB6 := cell_keep cB k6 (fun e => e)
    clear hcall hP cB q0 q1 q2
    go_wp2_with fail
    go_meet
    exact ⟨a, cap, m, rfl, F, cB6⟩
  case rest =>
    exact hrest _ _ _ _ _ _ _ _ _ _ _ _ _ _ _ _ _ _ _ _ _ _ _ _ _ _ _ _ _ _ _ _ _ _ _ _ _ _ _ _ _ _ _ _ _ _ _ _ _ _ _ _ _ _ _ _ _ _ _ _ _ _ _ _ _ _ _ _ _ _ _ _ _ _ _ _ _ _ _ _ _ _ _ _ _ _ _ _ _ _ _ _ _ _ _ _ _ _ _ _ _ _ _ _ _ _ _ _ _ _ _ _ _ _ _ _ _ _ _ _ _ _ _ _ _ _ _ _ _ _ _ _ _ _ _ _ _ _ _ _ _ _ _ _ _ _ _ _ hcut

set_option maxRecDepth 10000 in
set_option maxHeartbeats 4000000 in
theorem sw_ins0 {C : Code} (hC : C = swCode) {K : Act → World → Prop} {Q : Exit → Act → World → Prop} {w0 wc : World} {b p k N B G cap : Nat} {a : Option Addr} {m : List Rn} {r : Rn} {kk op : Int}
    {z1 z2 z3 z4 z5 z6 z8 z11 z15 z16 z17 z18 z19 z20 z21 z22 z23 z24 z25 z26 z27 z28 z29 z30 z31 z32 z33 z34 z35 z36 z37 z38 z39 z40 z41 z42 z43 z44 z45 z46 z47 z48 z49 z50 z51 z52 z53 z54 z55 z56 z57 z58 z59 z60 z61 z63 z64 z65 z66 z67 z68 z69 z70 z71 z72 z73 z74 z75 z76 z77 z78 z79 z80 z81 z82 z83 z84 z85 z86 z87 z88 z89 z90 z91 z92 z93 z94 z95 z96 z97 z98 z99 z100 z101 z102 z103 z104 z105 z106 z107 z108 z109 z110 z111 z112 z113 z114 z115 z116 z117 z118 z119 z120 z121 z122 z123 z124 z125 z126 z127 z128 z129 z130 z131 z132 z133 z134 z135 z136 z137 z138 z139 z140 z141 z142 z143 z144 z145 z146 z147 z148 z149 z150 z151 z152 z153 z154 z155 z156 z157 z158 z159 z160 z161 z162 z163 z164 z165 z166 z167 z168 z169 z170 z171 z172 z173 z174 z175 z176 z177 z178 z179 z180 z181 : Value}
    (hP : Ps w0 wc b p k N a cap m) (hN1 : 1 ≤ N) (hN2 : N ≤ 60) (cB : wc.cell? ⟨B, 1, none⟩ = some (.int .i64 r.lba)) (hG : Lrn wc G r) (hBo : ¬ Own3 b p k B) (hGo : ¬ Own3 b p k G) (hgB : ∀ g, a = some ⟨g, 0, none⟩ → g ≠ B ∧ g ≠ G) (hkk : kk = atL r.lba m)
    (o0 : op = 0) (hk0 : kk = -1) (hx : ∃ n l t, Mt w0 wc b p k N (n :: l) t ∧ t.runs = m ∧ t.idOf r.lba = 0) (hrest : ∀ (u6 u10 u15 u16 u17 u40 u41 u42 u43 u44 u45 u46 u47 u48 u49 u50 u51 u52 u53 u54 u55 u56 u57 u58 u59 u60 u61 u62 u63 u64 u65 u66 u67 u68 u69 u70 u71 u72 u73 u74 u75 u76 u77 u78 u79 u80 u81 u82 u83 u84 u85 u86 u87 u88 u89 u90 u91 u92 u93 u94 u95 u96 u97 u98 u99 u100 u101 u102 u103 u104 u105 u106 u107 u108 u109 u110 u111 u112 u113 u114 u115 u116 u117 u118 u119 u120 u121 u122 u123 u124 u125 u126 u127 u128 u129 u130 u131 u132 u133 u134 u135 u136 u137 u138 u139 u140 u141 u142 u143 u144 u145 u146 u147 u148 u149 u150 u151 u152 u153 u154 u155 u156 u157 u158 u159 u160 u161 u162 u163 u164 u165 u166 u167 u168 u169 u170 u171 u172 u173 u174 u175 u176 u177 u178 u179 u180 u181 : Value) (wx : World), (∃ (a' : Option Addr) (cap' : Nat) (m' : List Rn), u10 = .slice a' m'.length cap' ∧ Ps w0 wx b p k N a' cap' m' ∧ wx.cell? ⟨B, 1, none⟩ = some (.int .i64 r.lba)) → K ⟨List.toArray ((Value.int .i64 (N : Int)) :: z1 :: z2 :: z3 :: z4 :: z5 :: u6 :: (Value.pointer (some ⟨p, 0, none⟩)) :: z8 :: (Value.pointer (some ⟨b, 0, none⟩)) :: u10 :: z11 :: (Value.pointer (some ⟨B, 0, none⟩)) :: (Value.pointer (some ⟨G, 0, none⟩)) :: (Value.int .i64 kk) :: u15 :: u16 :: u17 :: z18 :: z19 :: z20 :: z21 :: z22 :: z23 :: z24 :: z25 :: z26 :: z27 :: z28 :: z29 :: z30 :: z31 :: z32 :: z33 :: z34 :: z35 :: z36 :: z37 :: z38 :: z39 :: u40 :: u41 :: u42 :: u43 :: u44 :: u45 :: u46 :: u47 :: u48 :: u49 :: u50 :: u51 :: u52 :: u53 :: u54 :: u55 :: u56 :: u57 :: u58 :: u59 :: u60 :: u61 :: u62 :: u63 :: u64 :: u65 :: u66 :: u67 :: u68 :: u69 :: u70 :: u71 :: u72 :: u73 :: u74 :: u75 :: u76 :: u77 :: u78 :: u79 :: u80 :: u81 :: u82 :: u83 :: u84 :: u85 :: u86 :: u87 :: u88 :: u89 :: u90 :: u91 :: u92 :: u93 :: u94 :: u95 :: u96 :: u97 :: u98 :: u99 :: u100 :: u101 :: u102 :: u103 :: u104 :: u105 :: u106 :: u107 :: u108 :: u109 :: u110 :: u111 :: u112 :: u113 :: u114 :: u115 :: u116 :: u117 :: u118 :: u119 :: u120 :: u121 :: u122 :: u123 :: u124 :: u125 :: u126 :: u127 :: u128 :: u129 :: u130 :: u131 :: u132 :: u133 :: u134 :: u135 :: u136 :: u137 :: u138 :: u139 :: u140 :: u141 :: u142 :: u143 :: u144 :: u145 :: u146 :: u147 :: u148 :: u149 :: u150 :: u151 :: u152 :: u153 :: u154 :: u155 :: u156 :: u157 :: u158 :: u159 :: u160 :: u161 :: u162 :: u163 :: u164 :: u165 :: u166 :: u167 :: u168 :: u169 :: u170 :: u171 :: u172 :: u173 :: u174 :: u175 :: u176 :: u177 :: u178 :: u179 :: u180 :: u181 :: []), []⟩ wx) :
    Code.wp Try.prog C (Exit.then K Q) ⟨List.toArray ((Value.int .i64 (N : Int)) :: z1 :: z2 :: z3 :: z4 :: z5 :: z6 :: (Value.pointer (some ⟨p, 0, none⟩)) :: z8 :: (Value.pointer (some ⟨b, 0, none⟩)) :: (Value.slice a m.length cap) :: z11 :: (Value.pointer (some ⟨B, 0, none⟩)) :: (Value.pointer (some ⟨G, 0, none⟩)) :: (Value.int .i64 kk) :: z15 :: z16 :: z17 :: z18 :: z19 :: z20 :: z21 :: z22 :: z23 :: z24 :: z25 :: z26 :: z27 :: z28 :: z29 :: z30 :: z31 :: z32 :: z33 :: z34 :: z35 :: z36 :: z37 :: z38 :: z39 :: z40 :: z41 :: z42 :: z43 :: z44 :: z45 :: z46 :: z47 :: z48 :: z49 :: z50 :: z51 :: z52 :: z53 :: z54 :: z55 :: z56 :: z57 :: z58 :: z59 :: z60 :: z61 :: (Value.int .i64 op) :: z63 :: z64 :: z65 :: z66 :: z67 :: z68 :: z69 :: z70 :: z71 :: z72 :: z73 :: z74 :: z75 :: z76 :: z77 :: z78 :: z79 :: z80 :: z81 :: z82 :: z83 :: z84 :: z85 :: z86 :: z87 :: z88 :: z89 :: z90 :: z91 :: z92 :: z93 :: z94 :: z95 :: z96 :: z97 :: z98 :: z99 :: z100 :: z101 :: z102 :: z103 :: z104 :: z105 :: z106 :: z107 :: z108 :: z109 :: z110 :: z111 :: z112 :: z113 :: z114 :: z115 :: z116 :: z117 :: z118 :: z119 :: z120 :: z121 :: z122 :: z123 :: z124 :: z125 :: z126 :: z127 :: z128 :: z129 :: z130 :: z131 :: z132 :: z133 :: z134 :: z135 :: z136 :: z137 :: z138 :: z139 :: z140 :: z141 :: z142 :: z143 :: z144 :: z145 :: z146 :: z147 :: z148 :: z149 :: z150 :: z151 :: z152 :: z153 :: z154 :: z155 :: z156 :: z157 :: z158 :: z159 :: z160 :: z161 :: z162 :: z163 :: z164 :: z165 :: z166 :: z167 :: z168 :: z169 :: z170 :: z171 :: z172 :: z173 :: z174 :: z175 :: z176 :: z177 :: z178 :: z179 :: z180 :: z181 :: []), []⟩ wc := by
  subst hC
  have hlen := hP.len
  have d0 : (m.length : Int) ≤ 9223372036854775807 := by omega
  change Code.wp Try.prog (Code.block 2 _) _ _ _
  go_cut [10] from 40 to 181 (fun v wx => ∃ (a' : Option Addr) (cap' : Nat) (m' : List Rn), v = .slice a' m'.length cap' ∧ Ps w0 wx b p k N a' cap' m' ∧ wx.cell? ⟨B, 1, none⟩ = some (.int .i64 r.lba))
  case first =>
    clear hrest
    obtain ⟨n, l, t, hM, ht, hz⟩ := hx
    have hcall := hM.insert r hz
    rw [rnA_lit] at hcall
    have hroom := hM.room
    have hml : m.length < N := by rw [← ht, ← Tr.views_runs, List.length_map]; simp at hroom; omega
    have hri := runs_ins hM.order n r
    rw [ht] at hri
    subst hk0 o0
    have q0 := (hG 0 (by omega)).1
    have q1 := (hG 1 (by omega)).1
    have q2 := (hG 2 (by omega)).1
    simp only [rcell] at q0 q1 q2
    have d1 : ¬ (N : Int) ≤ (m.length : Int) := by omega
    have d2 : (m.length : Int) < (N : Int) := by omega
    have hml' : Hid (m.length < N) := hml
    have hri' : Hid ((t.ins n r).runs = putR r m) := hri
    have hmine := hM.mine'
    clear hkk hgB ht hz hml hroom hlen hri hM
    go_wp2_with fail
    refine hcall.mono ?_
    rintro e w6 ⟨rfl, h6, k6⟩
    have row6 := hP.row.other k6 hP.ap hmine
    have cB6 := cell_keep cB k6 hBo
    have G6 : Lrn w6 G r := Blk.keep hG k6 hGo
    clear hcall hP cB q0 q1 q2 hG
    have q0 := (G6 0 (by omega)).1
    have q1 := (G6 1 (by omega)).1
    have q2 := (G6 2 (by omega)).1
    simp only [rcell] at q0 q1 q2
    have hput := put_list row6.rs (by have : m.length < N := hml'; omega) r
    rw [rnA_lit] at hput
    go_wp2_with fail
    refine hput.mono ?_
    rintro e w7 ⟨a7, cap7, rfl, R7⟩
    have h7 := h6.more R7.keep
    have cB7 := cell_keep cB6 R7.keep (fun e => e)
    have F : Ps w0 w7 b p k N a7 cap7 (putR r m) := ⟨⟨l, _, h7, hri'⟩, R7.base h7.keep h6.keep.size, fun g e => h6.out (R7.block e).1⟩
    clear hput h6 h7 R7 row6 q0 q1 q2 G6
    go_wp2_with fail
    go_meet
    exact ⟨a7, cap7, putR r m, rfl, F, cB7⟩
  case rest =>
    exact hrest _ _ _ _ _ _ _ _ _ _ _ _ _ _ _ _ _ _ _ _ _ _ _ _ _ _ _ _ _ _ _ _ _ _ _ _ _ _ _ _ _ _ _ _ _ _ _ _ _ _ _ _ _ _ _ _ _ _ _ _ _ _ _ _ _ _ _ _ _ _ _ _ _ _ _ _ _ _ _ _ _ _ _ _ _ _ _ _ _ _ _ _ _ _ _ _ _ _ _ _ _ _ _ _ _ _ _ _ _ _ _ _ _ _ _ _ _ _ _ _ _ _ _ _ _ _ _ _ _ _ _ _ _ _ _ _ _ _ _ _ _ _ _ _ _ _ _ _ hcut

end Tg
end Go.Proofs.Ytnipckcpnbdhhaa
