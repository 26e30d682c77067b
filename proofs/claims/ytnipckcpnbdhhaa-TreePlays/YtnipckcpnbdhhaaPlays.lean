/-
  The statement TreePlays at any size, any list of calls and any number: it returns true, and whatever was in memory is as it was.
-/
import Derived.Test.YtnipckcpnbdhhaaSwAny
namespace Go.Proofs.Ytnipckcpnbdhhaa
open Go.ChangeShapes Go.WideShapes Go.ChangeAt Go.RowKit
set_option linter.unusedVariables false
namespace Tg

set_option maxRecDepth 100000 in
set_option maxHeartbeats 2000000 in
theorem plays_out (w : World) (n : Int) (a : Option Addr) (len cap : Nat) (ask : Int) (hlen : (len : Int) ≤ 9223372036854775807) (h : n < 1 ∨ 60 < n ∨ 120 < (len : Int)) :
    Calls Try.prog 4 #[.int .i64 n, .slice a len cap, .int .i64 ask] w fun e w' => e = .returned (.bool true) ∧ Keep (fun _ => False) w w' := by
  have haw := awake_any w
  by_cases h1 : n < 1
  · clear h
    go_enter Try.func4, Try.ntmps4
    go_wp2_with (go_at_call 7; refine haw.mono ?_; rintro e w0 ⟨rfl, k0⟩)
    go_ret
    exact ⟨rfl, k0⟩
  · by_cases h2 : 60 < n
    · clear h
      go_enter Try.func4, Try.ntmps4
      go_wp2_with (go_at_call 7; refine haw.mono ?_; rintro e w0 ⟨rfl, k0⟩)
      go_ret
      exact ⟨rfl, k0⟩
    · have h3 : 120 < (len : Int) := by omega
      clear h
      go_enter Try.func4, Try.ntmps4
      go_wp2_with (go_at_call 7; refine haw.mono ?_; rintro e w0 ⟨rfl, k0⟩)
      go_ret
      exact ⟨rfl, k0⟩

set_option maxRecDepth 100000 in
set_option maxHeartbeats 4000000 in
theorem plays_in (w : World) (n : Nat) (a : Option Addr) (len cap : Nat) (ask : Int) (hA : Acts w a len cap) (h1 : 1 ≤ n) (h2 : n ≤ 60) (h3 : len ≤ 120) :
    Calls Try.prog 4 #[.int .i64 (n : Int), .slice a len cap, .int .i64 ask] w fun e w' => e = .returned (.bool true) ∧ Keep (fun _ => False) w w' := by
  have haw := awake_any w
  have n1 : ¬ (n : Int) < 1 := by omega
  have n2 : ¬ (60 : Int) < n := by omega
  have n3 : ¬ (120 : Int) < (len : Int) := by omega
  have hl63 : (len : Int) ≤ 9223372036854775807 := by omega
  go_enter Try.func4, Try.ntmps4
  go_wp2_with (go_at_call 7; refine haw.mono ?_; rintro e w0 ⟨rfl, k0⟩)
  have hnew := arena_any w0 h1 (by omega)
  refine hnew.mono ?_
  rintro e w1 ⟨p, k, rfl, m1, hp, hkk, k1⟩
  clear hnew haw
  have hnew := Mt.new (w := w0) h1 (by omega) m1 hp hkk k1
  generalize hb : w1.heap.size = b at hnew
  clear hb m1 hp hkk k1
  go_wp2_with fail
  refine hnew.mono ?_
  rintro e w2 ⟨rfl, h2', -⟩
  clear hnew
  have P2 : Ps w0 w2 b p k n none 0 [] := ⟨⟨_, _, h2', rfl⟩, ⟨World.ownsRow_nil _ _ _ _, h2'.keep⟩, fun g e => by cases e⟩
  have hA0 := hA.keep k0 (fun _ _ _ e => e)
  have f1 : Hid (1 ≤ n) := h1
  have f2 : Hid (n ≤ 60) := h2
  have f3 : Hid (len ≤ 120) := h3
  clear h2' hA h1 h2 h3
  go_wp2_with fail
  go_loopw [10, 11] (fun c i wr => ∃ (q : Nat) (a' : Option Addr) (cap' : Nat) (m : List Rn), q ≤ len ∧ c = .slice a' m.length cap' ∧ i = .int .i64 (q : Int) ∧ Ps w0 wr b p k n a' cap' m) (fun _ i _ => len - (intOf i).toNat)
  case atStart => exact ⟨0, none, 0, [], by omega, rfl, rfl, P2⟩
  case round =>
    obtain ⟨q, a', cap', m, hq, rfl, rfl, hP⟩ := hrel
    clear P2
    have hPk : Keep (fun _ => False) w0 wr := hP.row.keep
    by_cases hlt : q < len
    · have dq : (q : Int) < (len : Int) := by omega
      have dq1 : IntKind.i64.wrap ((q : Int) + 1) = (q : Int) + 1 := by have : len ≤ 120 := f3; rw [IntKind.wrap_i64]; omega
      have hAr := hA0.keep hPk (fun _ _ _ e => e)
      obtain ⟨_, _, hac⟩ := hAr
      rcases hac with h0 | ⟨bb, o, rfl, hac⟩
      · omega
      obtain ⟨f, hf⟩ := hac q hlt
      have c0 : wr.cell? ⟨bb, o + q * 4, none⟩ = some (.int .i64 (f 0)) := hf 0 (by omega)
      have c1 : wr.cell? ⟨bb, o + q * 4 + 1, none⟩ = some (.int .i64 (f 1)) := hf 1 (by omega)
      have c2 : wr.cell? ⟨bb, o + q * 4 + 2, none⟩ = some (.int .i64 (f 2)) := hf 2 (by omega)
      have c3 : wr.cell? ⟨bb, o + q * 4 + 3, none⟩ = some (.int .i64 (f 3)) := hf 3 (by omega)
      obtain ⟨r, hr⟩ : ∃ r : Rn, r = ⟨f 1, f 2, f 3⟩ := ⟨_, rfl⟩
      have K5 : Keep (fun _ => False) wr ((wr.alloc (.cells #[.int .i64 (f 0), .int .i64 (f 1), .int .i64 (f 2), .int .i64 (f 3)] 42)).alloc (.cells #[.int .i64 (f 1), .int .i64 (f 2), .int .i64 (f 3)] 31)) := ((Keep.refl _ _).alloc _).alloc _
      have X5 : Blk (wr.alloc (.cells #[.int .i64 (f 0), .int .i64 (f 1), .int .i64 (f 2), .int .i64 (f 3)] 42)) wr.heap.size 4 (fun j => .int .i64 (f j)) := blk_alloc wr _ 42 4 _ (fun i hi => by rcases four hi with rfl | rfl | rfl | rfl <;> rfl)
      have Y5 := X5.alloc (.cells #[.int .i64 (f 1), .int .i64 (f 2), .int .i64 (f 3)] 31)
      have G5 : Lrn ((wr.alloc (.cells #[.int .i64 (f 0), .int .i64 (f 1), .int .i64 (f 2), .int .i64 (f 3)] 42)).alloc (.cells #[.int .i64 (f 1), .int .i64 (f 2), .int .i64 (f 3)] 31)) (wr.heap.size + 1) r := by
        rw [hr]
        have := Lrn.new (wr.alloc (.cells #[.int .i64 (f 0), .int .i64 (f 1), .int .i64 (f 2), .int .i64 (f 3)] 42)) ⟨f 1, f 2, f 3⟩
        simp only [World.size_alloc] at this
        exact this
      have hlt' : Hid (q < len) := hlt
      clear hac hf hlt X5
      go_upto_region 15 with fail
      have P5 := hP.more K5
      generalize (wr.alloc (.cells #[.int .i64 (f 0), .int .i64 (f 1), .int .i64 (f 2), .int .i64 (f 3)] 42)).alloc (.cells #[.int .i64 (f 1), .int .i64 (f 2), .int .i64 (f 3)] 31) = w5 at K5 Y5 G5 P5 ⊢
      have hout : ∀ y, wr.heap.size ≤ y → ¬ Own3 b p k y := fun y hy => by
        obtain ⟨l, t, hM, -⟩ := hP.tr
        exact hM.out hy
      have hBo := hout wr.heap.size (Nat.le_refl _)
      have hGo := hout (wr.heap.size + 1) (by omega)
      have hgB : ∀ g, a' = some ⟨g, 0, none⟩ → g ≠ wr.heap.size ∧ g ≠ wr.heap.size + 1 := fun g e => by
        have := (hP.row.block e).2
        omega
      generalize wr.heap.size + 1 = G at G5 hGo hgB ⊢
      generalize wr.heap.size = B at Y5 hBo hgB ⊢
      have e0 : w5.cell? ⟨B, 0, none⟩ = some (.int .i64 (f 0)) := (Y5 0 (by omega)).1
      have e1 : w5.cell? ⟨B, 1, none⟩ = some (.int .i64 r.lba) := by rw [hr]; exact (Y5 1 (by omega)).1
      have hat := P5.at (by have : n ≤ 60 := f2; omega) r.lba
      have hA0' : Hid (Acts w0 (some ⟨bb, o, none⟩) len cap) := hA0
      clear c0 c1 c2 c3 hP hPk K5 Y5 hr hA0 hout
      go_upto_block 2 with (go_at_call 17; refine hat.mono ?_; rintro e wz ⟨rfl, e9⟩; have e9 := e9.symm; subst e9)
      refine sw_any (by kernel_rfl) P5 f1 f2 e1 G5 hBo hGo hgB rfl ?_
      intro u6 u10 u15 u16 u17 u40 u41 u42 u43 u44 u45 u46 u47 u48 u49 u50 u51 u52 u53 u54 u55 u56 u57 u58 u59 u60 u61 u62 u63 u64 u65 u66 u67 u68 u69 u70 u71 u72 u73 u74 u75 u76 u77 u78 u79 u80 u81 u82 u83 u84 u85 u86 u87 u88 u89 u90 u91 u92 u93 u94 u95 u96 u97 u98 u99 u100 u101 u102 u103 u104 u105 u106 u107 u108 u109 u110 u111 u112 u113 u114 u115 u116 u117 u118 u119 u120 u121 u122 u123 u124 u125 u126 u127 u128 u129 u130 u131 u132 u133 u134 u135 u136 u137 u138 u139 u140 u141 u142 u143 u144 u145 u146 u147 u148 u149 u150 u151 u152 u153 u154 u155 u156 u157 u158 u159 u160 u161 u162 u163 u164 u165 u166 u167 u168 u169 u170 u171 u172 u173 u174 u175 u176 u177 u178 u179 u180 u181 wx hcut
      obtain ⟨a6, cap6, m6, rfl, P6, cB6⟩ := hcut
      clear P5 e0 e1 G5 hBo hGo hgB hat
      have ca := P6.asked (by have : n ≤ 60 := f2; omega) r.lba
      go_wp2_with fail
      refine ca.mono ?_
      rintro e w7 ⟨rfl, k7⟩
      have P7 := P6.more k7
      have cb := P7.asked (by have : n ≤ 60 := f2; omega) ask
      clear ca P6 k7 cB6
      go_wp2_with fail
      refine cb.mono ?_
      rintro e w8 ⟨rfl, k8⟩
      have P8 := P7.more k8
      have cw := P8.whole (by have : n ≤ 60 := f2; omega)
      clear cb P7 k8
      go_wp2_with fail
      refine cw.mono ?_
      rintro e w9 ⟨rfl, k9⟩
      have P9 := P8.more k9
      clear cw P8 k9
      go_wp2_with fail
      go_roundw
      case rel => exact ⟨q + 1, a6, cap6, m6, hlt', rfl, by go_num, P9⟩
      case measure => have : q < len := hlt'; simp [intOf]; omega
    · have dq : ¬ (q : Int) < (len : Int) := by omega
      have HK := k0.trans hPk
      clear hP hA0
      go_wp2_with fail
      go_ret
      exact ⟨rfl, HK⟩

theorem plays_walk (w : World) (n : Int) {a : Option Addr} {len cap : Nat} (hA : Acts w a len cap) (ask : Int) :
    Calls Try.prog 4 #[.int .i64 n, .slice a len cap, .int .i64 ask] w fun e w' => e = .returned (.bool true) ∧ Below w.heap.size w w' := by
  have hb : ∀ e w', e = Ending.returned (.bool true) ∧ Keep (fun _ => False) w w' → e = Ending.returned (.bool true) ∧ Below w.heap.size w w' := fun e w' h => ⟨h.1, h.2.below (Nat.le_refl _) (fun _ e => e.elim)⟩
  have l1 := hA.1
  have l2 := hA.2.1
  by_cases h : n < 1 ∨ 60 < n ∨ 120 < (len : Int)
  · exact (plays_out w n a len cap ask (by omega) h).mono hb
  · obtain ⟨c, rfl⟩ := Int.eq_ofNat_of_zero_le (show 0 ≤ n by omega)
    exact (plays_in w c a len cap ask hA (by omega) (by omega) (by omega)).mono hb
end Tg
end Go.Proofs.Ytnipckcpnbdhhaa
