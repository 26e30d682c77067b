/-
  The statement ArenaPlays at any size and any list of calls: it returns true, and whatever was in memory is as it was.
-/
import Derived.Test.YtdeepmifolaenaaSwAny
namespace Go.Proofs.Ytdeepmifolaenaa
open Go.ChangeShapes Go.WideShapes Go.ChangeAt Go.RowKit
namespace Tg

set_option maxRecDepth 10000 in
theorem plays_no (w : World) (n : Int) (a : Option Addr) (len cap : Nat) (h : n < 1 ∨ 512 < n) :
    Calls Try.prog 4 #[.int .i64 n, .slice a len cap] w fun e w' => e = .returned (.bool true) ∧ Keep (fun _ => False) w w' := by
  by_cases h1 : n < 1
  · go_enter Try.func4, Try.ntmps4
    go_wp2_with fail
    refine (awake_any w).mono ?_
    rintro e w1 ⟨rfl, hk1⟩
    go_wp2_with fail
    refine (new_no h).mono ?_
    rintro e w2 ⟨rfl, rfl⟩
    go_wp2_with fail
    go_ret
    exact ⟨rfl, hk1⟩
  · have h2 : 512 < n := by omega
    go_enter Try.func4, Try.ntmps4
    go_wp2_with fail
    refine (awake_any w).mono ?_
    rintro e w1 ⟨rfl, hk1⟩
    go_wp2_with fail
    refine (new_no h).mono ?_
    rintro e w2 ⟨rfl, rfl⟩
    go_wp2_with fail
    go_ret
    exact ⟨rfl, hk1⟩

set_option maxRecDepth 10000 in
set_option maxHeartbeats 4000000 in
theorem plays_yes (w : World) (n : Nat) (a : Option Addr) (len cap : Nat) (hA : Acts w a len cap) (h1 : 1 ≤ n) (h2 : n ≤ 512) :
    Calls Try.prog 4 #[.int .i64 (n : Int), .slice a len cap] w fun e w' => e = .returned (.bool true) ∧ Keep (fun _ => False) w w' := by
  have n1 : ¬ (n : Int) < 1 := by omega
  have n2 : ¬ (512 : Int) < n := by omega
  have hlc : len ≤ 9223372036854775807 := by have := hA.1; have := hA.2.1; omega
  have hl63 : (len : Int) ≤ 9223372036854775807 := by omega
  go_enter Try.func4, Try.ntmps4
  go_wp2_with fail
  refine (awake_any w).mono ?_
  rintro e w1 ⟨rfl, hk1⟩
  have hA1 := hA.keep hk1 (fun _ _ _ e => e)
  clear hA
  go_wp2_with fail
  refine (Mk.new w1 h1 h2).mono ?_
  rintro e w2 ⟨p, k, rfl, hm⟩
  have dn1 : IntKind.i64.wrap ((n : Int) + 1) = (n : Int) + 1 := by rw [IntKind.wrap_i64]; omega
  by_cases hlen : 200 < (len : Int)
  · go_wp2_with fail
    go_ret
    exact ⟨rfl, hk1.trans hm.keep⟩
  by_cases hsz : 60 < (n : Int)
  · go_wp2_with fail
    go_ret
    exact ⟨rfl, hk1.trans hm.keep⟩
  go_wp2_with fail
  go_loopw [7, 8] (fun b i wr => ∃ (q cap : Nat) (fa : Option Addr), q ≤ n ∧ i = .int .i64 ((q : Int) + 1) ∧ b = .slice fa q cap ∧ Lst w2 wr fa cap q) (fun _ i _ => n + 1 - (intOf i).toNat)
  case atStart => exact ⟨0, 0, none, by omega, rfl, rfl, Keep.refl _ _, Or.inl ⟨rfl, rfl, rfl⟩⟩
  case round =>
    obtain ⟨q, fc, fa, hq, rfl, rfl, hL⟩ := hrel
    by_cases hlt : q < n
    · obtain ⟨g', cap', w3, hrun, hL3⟩ := hL.app (by omega)
      have dq : (q : Int) + 1 ≤ n := by omega
      have dq1 : IntKind.i64.wrap ((q : Int) + 1 + 1) = (q : Int) + 1 + 1 := by rw [IntKind.wrap_i64]; omega
      clear hL hA1 hm
      go_wp2_with (at_builtin; refine wpList_append_run rfl (.tmp 62) (.tmp 65) 32 rfl (by rfl) (by rfl) hrun ?_)
      go_roundw
      case rel => exact ⟨q + 1, cap', _, by omega, by go_num, rfl, hL3⟩
      case measure => simp [intOf]; omega
    · obtain rfl : q = n := by omega
      have dq : ¬ (q : Int) + 1 ≤ q := by omega
      have hP := Pl.start hm h1 hL
      have HK := hk1
      have hb := make_bools q (by omega)
      have hn := make_nodes q (by omega)
      have hrl : (List.range' 1 q).length = q := List.length_range'
      clear hL hm
      go_wp2_with fail
      generalize (wr.alloc (Obj.cells (madeCells #[Value.bool false] (q + 1)) 4)).alloc (Obj.cells (madeCells (nodeA fun _ => 0) ((q + 1) * 6)) 40) = w4 at hP ⊢
      generalize wr.heap.size = L at hP ⊢
      clear hb hn dq hq hlt
      go_loopw [7, 11] (fun b i wr => ∃ (c fc : Nat) (fa : Option Addr) (s : Ar) (l : List Nat) (nf : Nat → Nat → Int), c ≤ len ∧ i = .int .i64 c ∧ b = .slice fa l.length fc ∧ Hid (s.N = q) ∧ Pl w1 wr p k L (L + 1) s l nf fa fc) (fun _ i _ => len - (intOf i).toNat)
      case atStart => exact ⟨0, fc, fa, Ar.new q, List.range' 1 q, _, by omega, rfl, by rw [hrl], rfl, hP⟩
      case round =>
        rename_i wr0
        clear hP hrl
        obtain ⟨c, fc, fa, s, l, nf, hc, rfl, rfl, hsN, hP⟩ := hrel
        obtain rfl : q = s.N := hsN.symm
        clear hsN
        by_cases hlt : c < len
        · obtain ⟨_, _, hac⟩ := hA1.keep hP.ar.keep (fun _ _ _ e => e)
          rcases hac with h0 | ⟨b, o, rfl, hac⟩
          · omega
          obtain ⟨f, hf⟩ := hac c hlt
          have hld := load_act hf
          clear hac hf
          have hsize := hP.live.lt (by omega)
          obtain ⟨w5, hst, hb5, hk5⟩ := new_act wr f
          have hP5 := hP.more hk5
          clear hP hk5
          have c0 : w5.cell? ⟨wr.heap.size, 0, none⟩ = some (.int .i64 (f 0)) := (hb5 0 (by omega)).1
          have c1 : w5.cell? ⟨wr.heap.size, 1, none⟩ = some (.int .i64 (f 1)) := (hb5 1 (by omega)).1
          generalize hB : wr.heap.size = B at *
          have dc : (c : Int) < len := by omega
          have dc1 : IntKind.i64.wrap ((c : Int) + 1) = (c : Int) + 1 := by rw [IntKind.wrap_i64]; omega
          generalize actA f = A at hld hst
          by_cases hid : f 1 < 0
          · go_wp2_with (first | (guard_target =~ wpList _ _ _ (Oper.mk _ (Op.load 36 _) _ _ _ _ :: _) _ _; refine wpList_load_run rfl 36 (.tmp 81) rfl (by rfl) hld ?_) | (guard_target =~ wpList _ _ _ (Oper.mk _ (Op.store 36 _ _) _ _ _ _ :: _) _ _; refine wpList_store_run rfl 36 (.tmp 12) (.tmp 82) rfl (by rfl) (by rfl) hst ?_))
            go_roundw
            case rel => exact ⟨c + 1, fc, fa, s, l, nf, by omega, by go_num, rfl, rfl, hP5⟩
            case measure => simp [intOf]; omega
          by_cases hid2 : 1000 < f 1
          · go_wp2_with (first | (guard_target =~ wpList _ _ _ (Oper.mk _ (Op.load 36 _) _ _ _ _ :: _) _ _; refine wpList_load_run rfl 36 (.tmp 81) rfl (by rfl) hld ?_) | (guard_target =~ wpList _ _ _ (Oper.mk _ (Op.store 36 _ _) _ _ _ _ :: _) _ _; refine wpList_store_run rfl 36 (.tmp 12) (.tmp 82) rfl (by rfl) (by rfl) hst ?_))
            go_roundw
            case rel => exact ⟨c + 1, fc, fa, s, l, nf, by omega, by go_num, rfl, rfl, hP5⟩
            case measure => simp [intOf]; omega
          obtain ⟨x, hx⟩ : ∃ x : Nat, f 1 = (x : Int) := ⟨(f 1).toNat, by omega⟩
          have hx1000 : x ≤ 1000 := by omega
          rw [hx] at c1
          have HF : Hid (f 1 = (x : Int)) := hx
          clear hx hid hid2 HF
          have dx0 : ¬ (x : Int) < 0 := by omega
          have dx1 : ¬ (1000 : Int) < x := by omega
          go_upto_region 21 with (first | (guard_target =~ wpList _ _ _ (Oper.mk _ (Op.load 36 _) _ _ _ _ :: _) _ _; refine wpList_load_run rfl 36 (.tmp 81) rfl (by rfl) hld ?_) | (guard_target =~ wpList _ _ _ (Oper.mk _ (Op.store 36 _ _) _ _ _ _ :: _) _ _; refine wpList_store_run rfl 36 (.tmp 12) (.tmp 82) rfl (by rfl) (by rfl) hst ?_))
          clear hld hst
          have hlv : ∀ y, y ≤ s.N → w5.cell? ⟨L, y, none⟩ = some (.bool (s.live y)) := fun y hy => (hP5.liveAt hy).1
          go_cut [14] from 73 to 230 (fun v wx => ∃ is : Bool, v = .bool is ∧ (is = true ↔ (1 ≤ x ∧ x ≤ s.N ∧ s.live x = true)) ∧ wx = w5)
          case first =>
            by_cases e1 : 1 ≤ x
            · by_cases e2 : x ≤ s.N
              · have cl := hlv x e2
                have e1' : (1 : Int) ≤ x := by omega
                have e2' : (x : Int) ≤ s.N := by omega
                clear hlv hP5
                cases hb : s.live x
                · rw [hb] at cl
                  go_wp2_with fail
                  go_meet
                  exact ⟨false, rfl, by simp [hb], rfl⟩
                · rw [hb] at cl
                  go_wp2_with fail
                  go_meet
                  exact ⟨true, rfl, by simp [hb, e1, e2], rfl⟩
              · have e1' : (1 : Int) ≤ x := by omega
                have e2' : decide ((x : Int) ≤ s.N) = false := by simp; omega
                clear hlv hP5
                go_wp2_with fail
                go_meet
                exact ⟨false, rfl, by simp [e2], rfl⟩
            · have e1' : decide ((1 : Int) ≤ x) = false := by simp; omega
              clear hlv hP5
              go_wp2_with fail
              go_meet
              exact ⟨false, rfl, by simp [e1], rfl⟩
          case rest =>
          obtain ⟨is, rfl, his, rfl⟩ := hcut
          clear hlv
          clear hA1 hB
          have hcs := hP5.ar.ok.count
          have hfin : ∀ {s' : Ar} {l' : List Nat} {nf' : Nat → Nat → Int} {fa' : Option Addr} {fc' : Nat} {w' : World}, Pl w1 w' p k L (L + 1) s' l' nf' fa' fc' → s'.N = s.N →
              Calls Try.prog 12 #[.pointer (some ⟨p, 0, none⟩), .slice fa' l'.length fc', .slice (some ⟨L, 0, none⟩) (s.N + 1) (s.N + 1)] w' fun e w'' => e = .returned (.bool true) ∧ Pl w1 w'' p k L (L + 1) s' l' nf' fa' fc' := by
            intro s' l' nf' fa' fc' w' h e
            rw [← e]
            refine (whole_any h.ar.mem h.ar.ok h.row h.live).mono ?_
            rintro e w'' ⟨rfl, hk⟩
            exact ⟨rfl, h.more hk⟩
          have hbB := hP5.ar.keep.size
          have c2 : wc.cell? ⟨B, 2, none⟩ = some (.int .i64 (f 2)) := (hb5 2 (by omega)).1
          have c3 : wc.cell? ⟨B, 3, none⟩ = some (.int .i64 (f 3)) := (hb5 3 (by omega)).1
          have c4 : wc.cell? ⟨B, 4, none⟩ = some (.int .i64 (f 4)) := (hb5 4 (by omega)).1
          clear hb5 hbB
          go_upto_block 4 with fail
          refine sw_any (by kernel_rfl) hP5 h1 h2 hx1000 his c0 c1 c2 c3 c4 ?_
          intro u4 u7 u15 u16 u17 u18 u19 u20 u73 u74 u75 u76 u77 u78 u79 u80 u81 u82 u83 u84 u85 u86 u87 u88 u89 u90 u91 u92 u93 u94 u95 u96 u97 u98 u99 u100 u101 u102 u103 u104 u105 u106 u107 u108 u109 u110 u111 u112 u113 u114 u115 u116 u117 u118 u119 u120 u121 u122 u123 u124 u125 u126 u127 u128 u129 u130 u131 u132 u133 u134 u135 u136 u137 u138 u139 u140 u141 u142 u143 u144 u145 u146 u147 u148 u149 u150 u151 u152 u153 u154 u155 u156 u157 u158 u159 u160 u161 u162 u163 u164 u165 u166 u167 u168 u169 u170 u171 u172 u173 u174 u175 u176 u177 u178 u179 u180 u181 u182 u183 u184 u185 u186 u187 u188 u189 u190 u191 u192 u193 u194 u195 u196 u197 u198 u199 u200 u201 u202 u203 u204 u205 u206 u207 u208 u209 u210 u211 u212 u213 u214 u215 u216 u217 u218 u219 u220 u221 u222 u223 u224 u225 u226 u227 u228 u229 u230 wx hcut
          obtain ⟨s', l', nf', fa', fc', rfl, hs', hP'⟩ := hcut
          have hw := hfin hP' hs'
          clear hfin hP' hP5 c0 c1 c2 c3 c4 hcs his
          go_wp2_with fail
          refine hw.mono ?_
          rintro e w9 ⟨rfl, hP9⟩
          clear hw
          go_wp2_with fail
          go_roundw
          case rel => exact ⟨c + 1, fc', fa', s', l', nf', by omega, by go_num, rfl, hs', hP9⟩
          case measure => simp [intOf]; omega
        · have dc : ¬ (c : Int) < len := by omega
          have HE := HK.trans hP.ar.keep
          clear hP hA1
          go_wp2_with fail
          go_ret
          exact ⟨rfl, HE⟩
end Tg
end Go.Proofs.Ytdeepmifolaenaa
