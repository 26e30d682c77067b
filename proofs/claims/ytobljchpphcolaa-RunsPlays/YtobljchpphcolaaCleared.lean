/-
  A range that is cleared has no page, all others have theirs; cleared as a whole the map has no run.
-/
import Derived.Test.YtobljchpphcolaaApart
namespace Go.Proofs.Ytobljchpphcolaa
open Go.ChangeShapes Go.WideShapes Go.ChangeAt Go.RowKit
namespace Tg

set_option maxRecDepth 100000 in
theorem info3 : (Try.prog.info? 3).map (fun i => (i.zero, i.size, i.bytes)) = some (some (.int .i64 0), 1, 8) := by kernel_rfl
set_option maxRecDepth 100000 in
theorem make_ints (n : Nat) (hn : n ≤ 512) (w : World) : (Instr.makeSlice 31 (.int .i64 (n : Int)) (.int .i64 (n : Int))).run Try.prog w =
    .ok (.slice (some ⟨w.heap.size, 0, none⟩) n n) (w.alloc (.cells (madeCells #[.int .i64 0] n) 3)) := by
  obtain ⟨i, hi, hz0, hz1, hz2⟩ := info_parts info3
  have := run_make (P := Try.prog) w 31 3 i _ Try.underlying31 hi hz0 .i64 .i64 n n (by omega) (by omega) (by rw [hz2]; omega) (by omega)
  rw [hz1, Nat.mul_one] at this
  exact this
theorem blk_ints (w : World) (n : Nat) : Blk (w.alloc (.cells (madeCells #[.int .i64 0] n) 3)) w.heap.size n (fun _ => .int .i64 0) :=
  blk_alloc w _ 3 n _ (fun i hi => by rw [← Array.getElem?_toList, toList_madeCells_one]; simp [hi])
/-- A sector's entry. -/
def tv (m : List Rn) (i : Nat) : Int := (page m (i : Int)).getD (-1)
/-- The first i entries. -/
def tvs (m : List Rn) (i j : Nat) : Value := .int .i64 (if j < i then tv m j else 0)
theorem page_pos {m : List Rn} (h : Form m) {s x : Int} (hp : page m s = some x) : 0 ≤ x := by
  obtain ⟨y, hy, h1, h2, rfl⟩ := page_mem hp
  have := (h.1 y hy).2.2
  omega

set_option maxRecDepth 100000 in
set_option maxHeartbeats 2000000 in
theorem cleared_any {W : World} {cap : Int} (hc : -9223372036854775808 ≤ cap ∧ cap ≤ 9223372036854775807) {a : Option Addr} {len c : Nat} (hA : Acts W a len c) {lba n : Int} :
    Calls Try.prog 7 #[.int .i64 cap, .slice a len c, .int .i64 lba, .int .i64 n] W fun e w' => e = .returned (.bool true) ∧ Keep (fun _ => False) W w' := by
  have haw := awake_any W
  have hlc := hA.1
  have hlc2 := hA.2.1
  by_cases hcap : cap < 1 ∨ 512 < cap
  · have hn := fun w => newMap_no (w := w) (c := cap) (n := 512) (by omega)
    clear hA hcap
    go_enter Try.func7, Try.ntmps7
    go_wp2_with (first | (go_at_call 8; refine haw.mono ?_; rintro e w2 ⟨rfl, k2⟩) | (go_at_call 9; refine (hn _).mono ?_; rintro e w3 ⟨rfl, k3⟩))
    go_ret
    exact ⟨rfl, k2.trans k3⟩
  obtain ⟨C, rfl⟩ : ∃ C : Nat, cap = (C : Int) := ⟨cap.toNat, by omega⟩
  have hC1 : 1 ≤ C := by omega
  have hC2 : C ≤ 512 := by omega
  have n1 := fun w => newMap_any (w := w) (cap := C) (N := 512) hC1 hC2 (by omega) (by omega)
  rw [show ((512 : Nat) : Int) = 512 from rfl] at n1
  clear hcap
  go_enter Try.func7, Try.ntmps7
  go_upto_region 4 with (first | (go_at_call 8; refine haw.mono ?_; rintro e w2 ⟨rfl, k2⟩) | (go_at_call 9; refine (n1 _).mono ?_; rintro e w3 ⟨q, b, p, k, rfl, M3⟩))
  clear n1 haw
  have M4 := M3.older k2
  clear M3
  have hr := right9 w3 C lba n hc.2
  by_cases c1 : (30 : Int) < len
  · have HK := M4.keep
    clear hA M4
    go_wp2_with fail
    go_ret
    exact ⟨rfl, HK⟩
  cases o1 : okR (C : Int) lba n with
  | false =>
    rw [o1] at hr
    have HK := M4.keep
    clear hA M4
    go_wp2_with (go_at_call 22; refine hr.mono ?_; rintro e w4 ⟨rfl, e4⟩; have e4 := e4.symm; subst e4)
    go_ret
    exact ⟨rfl, HK⟩
  | true =>
  rw [o1] at hr
  obtain ⟨a1, a2, a3⟩ := okR_iff.1 o1
  have hl30 : len ≤ 30 := by omega
  go_wp2_with (go_at_call 22; refine hr.mono ?_; rintro e w4 ⟨rfl, e4⟩; have e4 := e4.symm; subst e4)
  clear hr c1
  go_loopw [11] (fun v wx => ∃ (i : Nat) (m : List Rn), i ≤ len ∧ v = .int .i64 (i : Int) ∧ Mp W wx q b p k 512 C m) (fun v _ => len - (intOf v).toNat)
  case atStart => exact ⟨0, [], by omega, rfl, M4⟩
  case round =>
    clear M4
    obtain ⟨i, m, hi, rfl, M1⟩ := hrel
    by_cases hlt : i < len
    · obtain ⟨ab, ao, rfl, h, hh, y0, y1, y2, y3⟩ := hA.at hlt
      have KX := M1.keep
      have e0 := KX.cell y0
      have e1 := KX.cell y1
      have e2 := KX.cell y2
      have e3 := KX.cell y3
      have di : (i : Int) < (len : Int) := by omega
      have dw := wrapI (x := (i : Int) + 1) (by omega) (by omega)
      have hlt' : Hid (i < len) := hlt
      have h1 := one_any M1 h hh
      unfold actA at h1
      clear hlt KX hA y0 y1 y2 y3
      go_wp2_with (go_at_call 23; refine h1.mono ?_; rintro e w5 ⟨rfl, M5, k5⟩)
      clear h1 M1 e0 e1 e2 e3 k5
      go_roundw
      case rel => exact ⟨i + 1, _, hlt', by go_num, M5⟩
      case measure => have : i < len := hlt'; simp [intOf]; omega
    · have di : ¬ (i : Int) < (len : Int) := by omega
      have hmk := make_ints C hC2 wr
      have B0 := blk_ints wr C
      have k0 : Keep (fun _ => False) wr (wr.alloc (.cells (madeCells #[.int .i64 0] C) 3)) := (Keep.refl _ _).alloc _
      have M2 := M1.more k0
      have hT := M1.lt
      have hTw : W.heap.size ≤ wr.heap.size := M1.keep.size
      generalize wr.alloc (.cells (madeCells #[.int .i64 0] C) 3) = w5 at hmk B0 k0 M2
      generalize wr.heap.size = T at hmk B0 hT hTw
      have B0 : Blk w5 T C (tvs m 0) := B0.congr (fun j hj => by simp [tvs])
      clear hA hlt k0 M1 hlc hlc2
      go_wp2_with fail
      clear hmk
      go_loopw [13] (fun v wx => ∃ i : Nat, i ≤ C ∧ v = .int .i64 (i : Int) ∧ Mp W wx q b p k 512 C m ∧ Blk wx T C (tvs m i)) (fun v _ => C - (intOf v).toNat)
      case atStart => exact ⟨0, by omega, rfl, M2, B0⟩
      case round =>
        clear M2 B0
        obtain ⟨i, hi, rfl, M3, B3⟩ := hrel
        by_cases hlt : i < C
        · have hg := get_map M3 (i : Int) (by omega)
          have di : (i : Int) < (C : Int) := by omega
          have dw := wrapI (x := (i : Int) + 1) (by omega) (by omega)
          have hlt' : Hid (i < C) := hlt
          have fin : ∀ (w6 : World) (g : Nat → Value), Mp W w6 q b p k 512 C m → Blk w6 T C g → (∀ j, j < C → ¬ j = i → g j = tvs m i j) → ∀ v : Int, Mp W (w6.setCell ⟨T, i, none⟩ (.int .i64 v)) q b p k 512 C m ∧ Blk (w6.setCell ⟨T, i, none⟩ (.int .i64 v)) T C (fun j => if j = i then .int .i64 v else tvs m i j) := by
            intro w6 g h6 b6 hg6 v
            have kk : Keep (fun x => x = T) w6 (w6.setCell ⟨T, i, none⟩ (.int .i64 v)) := (Keep.refl (fun x => x = T) w6).setCell (p := ⟨T, i, none⟩) (Or.inl rfl) _
            refine ⟨h6.other kk (fun x e => by omega) (by omega) (by omega) (by omega) (by omega), (b6.set i _).congr (fun j hj => ?_)⟩
            by_cases ej : j = i
            · rw [if_pos ej, if_pos ej]
            · rw [if_neg ej, if_neg ej]; exact hg6 j hj ej
          have nxt : ∀ (w7 : World) (v : Int), v = tv m i → Blk w7 T C (fun j => if j = i then .int .i64 v else tvs m i j) → Blk w7 T C (tvs m (i + 1)) := by
            rintro w7 v rfl b7
            refine b7.congr (fun j hj => ?_)
            unfold tvs
            by_cases ej : j = i
            · subst ej; rw [if_pos rfl, if_pos (by omega)]
            · rw [if_neg ej]
              by_cases e2 : j < i
              · rw [if_pos e2, if_pos (by omega)]
              · rw [if_neg e2, if_neg (by omega)]
          have htv : Hid (tv m i = (page m (i : Int)).getD (-1)) := rfl
          have hcell : ∀ (w6 : World), Keep (fun _ => False) wr w6 → w6.cell? ⟨T, i, none⟩ = some (tvs m i i) ∧ w6.frozen? ⟨T, i, none⟩ = false := fun w6 k6 => (B3.keep k6 (fun e => e)) i hlt
          have hcell0 : tvs m i i = .int .i64 0 := by unfold tvs; rw [if_neg (by omega)]
          rw [hcell0] at hcell
          clear hlt hcell0
          cases hp : page m (i : Int) with
          | none =>
            have hv : Hid ((-1 : Int) = tv m i) := by show (-1 : Int) = tv m i; rw [(show tv m i = _ from htv), hp]; rfl
            rw [hp, show (none : Option Int).getD 0 = 0 from rfl, show (none : Option Int).isSome = false from rfl] at hg
            clear hp htv
            go_upto_region 15 with (go_at_call 24; refine hg.mono ?_; rintro e w6 ⟨rfl, k6⟩)
            obtain ⟨z1, z2⟩ := hcell w6 k6
            obtain ⟨M7, B7⟩ := fin w6 _ (M3.more k6) (B3.keep k6 (fun e => e)) (fun _ _ _ => rfl) (-1)
            have B7 := nxt _ _ hv B7
            clear hcell hg fin nxt M3 B3
            go_wp2_with fail
            go_roundw
            case rel => exact ⟨i + 1, hlt', by go_num, M7, B7⟩
            case measure => have : i < C := hlt'; simp [intOf]; omega
          | some x =>
            have hv : Hid (x = tv m i) := by show x = tv m i; rw [(show tv m i = _ from htv), hp]; rfl
            rw [hp, show (some x).getD 0 = x from rfl, show (some x).isSome = true from rfl] at hg
            clear hp htv
            go_upto_region 15 with (go_at_call 24; refine hg.mono ?_; rintro e w6 ⟨rfl, k6⟩)
            obtain ⟨z1, z2⟩ := hcell w6 k6
            obtain ⟨M6, B6⟩ := fin w6 _ (M3.more k6) (B3.keep k6 (fun e => e)) (fun _ _ _ => rfl) (-1)
            obtain ⟨M7, B7⟩ := fin _ _ M6 B6 (fun j _ hj => by rw [if_neg hj]) x
            have B7 := nxt _ _ hv B7
            clear hcell hg fin nxt M3 B3 M6 B6
            go_wp2_with fail
            go_roundw
            case rel => exact ⟨i + 1, hlt', by go_num, M7, B7⟩
            case measure => have : i < C := hlt'; simp [intOf]; omega
        · have di2 : ¬ (i : Int) < (C : Int) := by omega
          have ei : i = C := by omega
          subst ei
          have B4 : Blk wr T i (fun j => .int .i64 (tv m j)) := B3.congr (fun j hj => by unfold tvs; rw [if_pos hj])
          have hcl := clear_fits M3 a2 a1 (by omega)
          have fm := M3.form
          have hlt' : Hid (Form m) := fm
          clear hi hlt B3 B0 hC1
          go_upto_region 20 with (go_at_call 11; refine hcl.mono ?_; rintro e w6 ⟨rfl, M6, k6⟩)
          have B6 := B4.keep k6 (by rintro (e | e | e) <;> omega)
          clear hcl M3 B4 k6
          have hpg : Hid (∀ s, page (clearL lba (lba + n) m) s = if lba ≤ s ∧ s < lba + n then none else page m s) := fun s => clearL_page (by omega) m s
          have d0 := wrapI (x := lba + n) (by omega) (by omega)
          go_wp2_with fail
          go_loopw [16] (fun v wx => ∃ j : Nat, j ≤ i ∧ v = .int .i64 (j : Int) ∧ Keep (fun _ => False) w6 wx) (fun v _ => i - (intOf v).toNat)
          case atStart => exact ⟨0, by omega, rfl, Keep.refl _ _⟩
          case round =>
            obtain ⟨j, hj, rfl, k7⟩ := hrel
            have M7 := M6.more k7
            have B7 := B6.keep k7 (fun e => e)
            by_cases hlt : j < i
            · have hg := get_map M7 (j : Int) (by omega)
              have hpj := (show ∀ s, page (clearL lba (lba + n) m) s = if lba ≤ s ∧ s < lba + n then none else page m s from hpg) (j : Int)
              have dj : (j : Int) < (i : Int) := by omega
              have dw := wrapI (x := (j : Int) + 1) (by omega) (by omega)
              have hlt2 : Hid (j < i) := hlt
              have htj : tv m j = (page m (j : Int)).getD (-1) := rfl
              have bj := fun (w8 : World) (k8 : Keep (fun _ => False) wr w8) => ((B7.keep k8 (fun e => e)) j hlt).1
              by_cases cin : lba ≤ (j : Int) ∧ (j : Int) < lba + n
              · rw [if_pos cin] at hpj
                obtain ⟨i1, i2⟩ := cin
                rw [hpj, show (none : Option Int).getD 0 = 0 from rfl, show (none : Option Int).isSome = false from rfl] at hg
                clear M6 B6 M7 B7 hpj htj bj hlt fm
                go_upto_region 24 with (go_at_call 24; refine hg.mono ?_; rintro e w8 ⟨rfl, k8⟩)
                go_wp2_with fail
                go_roundw
                case rel => exact ⟨j + 1, hlt2, by go_num, k7.trans k8⟩
                case measure => have : j < i := hlt2; simp [intOf]; omega
              · rw [if_neg cin] at hpj
                rw [hpj] at hg
                cases hp : page m (j : Int) with
                | none =>
                  rw [hp, show (none : Option Int).getD (-1) = -1 from rfl] at htj
                  rw [htj] at bj
                  rw [hp, show (none : Option Int).getD 0 = 0 from rfl, show (none : Option Int).isSome = false from rfl] at hg
                  clear M6 B6 M7 B7 hpj htj hlt fm hp
                  by_cases i1 : lba ≤ (j : Int)
                  · have i2 : ¬ (j : Int) < lba + n := fun h => cin ⟨i1, h⟩
                    clear cin
                    go_upto_region 24 with (go_at_call 24; refine hg.mono ?_; rintro e w8 ⟨rfl, k8⟩)
                    have b8 := bj w8 k8
                    clear bj
                    go_wp2_with fail
                    go_roundw
                    case rel => exact ⟨j + 1, hlt2, by go_num, k7.trans k8⟩
                    case measure => have : j < i := hlt2; simp [intOf]; omega
                  · clear cin
                    go_upto_region 24 with (go_at_call 24; refine hg.mono ?_; rintro e w8 ⟨rfl, k8⟩)
                    have b8 := bj w8 k8
                    clear bj
                    go_wp2_with fail
                    go_roundw
                    case rel => exact ⟨j + 1, hlt2, by go_num, k7.trans k8⟩
                    case measure => have : j < i := hlt2; simp [intOf]; omega
                | some x =>
                  have hx0 := page_pos fm hp
                  have hx1 : ¬ x < 0 := by omega
                  rw [hp, show (some x).getD (-1) = x from rfl] at htj
                  rw [htj] at bj
                  rw [hp, show (some x).getD 0 = x from rfl, show (some x).isSome = true from rfl] at hg
                  clear M6 B6 M7 B7 hpj htj hlt fm hp
                  by_cases i1 : lba ≤ (j : Int)
                  · have i2 : ¬ (j : Int) < lba + n := fun h => cin ⟨i1, h⟩
                    clear cin
                    go_upto_region 24 with (go_at_call 24; refine hg.mono ?_; rintro e w8 ⟨rfl, k8⟩)
                    have b8 := bj w8 k8
                    clear bj
                    go_wp2_with fail
                    go_roundw
                    case rel => exact ⟨j + 1, hlt2, by go_num, k7.trans k8⟩
                    case measure => have : j < i := hlt2; simp [intOf]; omega
                  · clear cin
                    go_upto_region 24 with (go_at_call 24; refine hg.mono ?_; rintro e w8 ⟨rfl, k8⟩)
                    have b8 := bj w8 k8
                    clear bj
                    go_wp2_with fail
                    go_roundw
                    case rel => exact ⟨j + 1, hlt2, by go_num, k7.trans k8⟩
                    case measure => have : j < i := hlt2; simp [intOf]; omega
            · have dj : ¬ (j : Int) < (i : Int) := by omega
              have hcl := clear_fits M7 (lba := 0) (n := (i : Int)) (by omega) (by omega) (by omega)
              rw [clearL_whole (show (0 : Int) < 0 + (i : Int) by omega) M7.form (fun x hx => by have := (M7.lim x hx).1; omega)] at hcl
              clear M6 B6 M7 B7 fm hlt
              go_wp2_with (go_at_call 11; refine hcl.mono ?_; rintro e w8 ⟨rfl, M8, -⟩)
              have hct := count_any M8
              have har := arenaOf_any M8
              obtain ⟨l8, t8, T8, e8⟩ := M8.ex
              have hlv := T8.live
              rw [Tr.runs_len, e8] at hlv
              rw [show (([] : List Rn).length : Int) = 0 from rfl] at hct hlv
              have HK := M8.keep
              clear M8 T8 e8 hcl
              refine hct.mono ?_
              rintro e w9 ⟨rfl, e9⟩
              have e9 := e9.symm
              subst e9
              go_wp2_with fail
              refine har.mono ?_
              rintro e w9 ⟨rfl, e9⟩
              have e9 := e9.symm
              subst e9
              go_wp2_with fail
              refine hlv.mono ?_
              rintro e w9 ⟨rfl, e9⟩
              have e9 := e9.symm
              subst e9
              go_wp2_with fail
              go_ret
              exact ⟨rfl, HK⟩
theorem cleared_walk (W : World) {cap : Int} (hc : (Lit.int .i64 cap).wf = true) {a : Option Addr} {len c : Nat} (hA : Acts W a len c) (lba n : Int) :
    Calls Try.prog 7 #[.int .i64 cap, .slice a len c, .int .i64 lba, .int .i64 n] W fun e w' => e = .returned (.bool true) ∧ Below W.heap.size W w' :=
  (cleared_any (int_fits hc) hA).mono (by rintro e w' ⟨h1, h2⟩; exact ⟨h1, h2.below (Nat.le_refl _) (fun _ e => e.elim)⟩)
end Tg
end Go.Proofs.Ytobljchpphcolaa
