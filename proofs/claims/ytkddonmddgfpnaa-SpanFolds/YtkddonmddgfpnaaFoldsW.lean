/-
  The statement of pieces in two parts, walked: it returns true, and whatever was in memory is as it was.
-/
import Derived.Test.YtkddonmddgfpnaaFormW
import Derived.Test.YtkddonmddgfpnaaPartsW
namespace Go.Proofs.Ytkddonmddgfpnaa
open Go.ChangeShapes Go.WideShapes Go.ChangeAt Go.RowKit
namespace Tg

/-- A row's cells, one after the other. -/
theorem Rz.cells {w : World} {g o cap : Nat} {l : List Rn} (h : Rz w (some ⟨g, o, none⟩) cap l) : ∀ j u, (rcells l)[j]? = some u → w.cell? ⟨g, o + j, none⟩ = some u := fun j u hu => by
  have hj := (List.getElem?_eq_some_iff.1 hu).1
  rw [rcells_len] at hj
  obtain ⟨x, hx⟩ := get_rn (m := l) (i := j / 3) (by omega)
  obtain ⟨g', o', e, c0, c1, c2⟩ := h.at hx
  injection e with e; injection e with e1 e2; subst e1; subst e2
  have hr := rcells_at hx (j % 3) (by omega)
  rw [show j / 3 * 3 + j % 3 = j by omega, hu] at hr
  have h3 : j % 3 = 0 ∨ j % 3 = 1 ∨ j % 3 = 2 := by omega
  rcases h3 with h3 | h3 | h3
  · rw [h3] at hr; rw [show o + j = o + j / 3 * 3 by omega, hr]; exact c0
  · rw [h3] at hr; rw [show o + j = o + j / 3 * 3 + 1 by omega, hr]; exact c1
  · rw [h3] at hr; rw [show o + j = o + j / 3 * 3 + 2 by omega, hr]; exact c2
/-- A row that lay ahead of the blocks that are written. -/
theorem Rs.beside {S : Nat → Prop} {w0 w w' : World} {a : Option Addr} {c : Nat} {m : List Rn} (h0 : Rs w0 a c m) (h : Rs w a c m) (k : Keep S w w') (hs : ∀ x, S x → w0.heap.size ≤ x) : Rs w' a c m := by
  by_cases hm : m = []
  · exact ⟨h.1, h.2.1, Or.inl hm⟩
  · refine h.keep k (fun g e hS => ?_)
    have := hs g hS
    have hb := Rz.block (g := g) (o := 0) (by rw [← e]; exact h0.rz) hm
    omega
/-- A piece that is not passed over, set: it is done. -/
theorem fold_set {W w : World} {fl : Bool} {q : Nat} {S T : Nat → Prop} {t : List Int} (h : Sp W w fl q S T 512 512 t) {x : Rn} (h1 : 0 ≤ x.phys) (h2 : x.phys ≤ 1048576) (h3 : 1 ≤ x.len) (h4 : 0 ≤ x.lba) (h5 : x.lba < 512) {n : Int} (hn : n = min x.len (512 - x.lba)) :
    Calls Try.prog (fSet fl) #[.pointer (some ⟨q, 0, none⟩), .int .i64 x.lba, .int .i64 n, .int .i64 x.phys] w (Chd W w fl q S T 512 512 (fold1 t x, 0)) := by
  have hs : ¬ Skip x := by unfold Skip; omega
  have hclip : (clipN x : Int) = n := by unfold clipN; omega
  have hcd : CanDo 512 ⟨x.lba, n, x.phys⟩ := by unfold CanDo; simp only; omega
  have hst : stepL 512 t ⟨x.lba, n, x.phys⟩ = (fold1 t x, 0) := by
    unfold stepL fold1
    rw [h.tl, if_pos hcd, if_neg hs, if_pos (by have := refR_len (putN t x.lba.toNat x.phys n.toNat) 512; exact this)]
    rw [show n.toNat = clipN x by omega]
  have := h.set (x := ⟨x.lba, n, x.phys⟩) (by simp only; omega) (by simp only; omega)
  rwa [hst] at this
/-- A piece that is passed over, or that has nothing below 512. -/
theorem fold_no {t : List Int} {x : Rn} (h : x.phys < 0 ∨ 1048576 < x.phys ∨ x.len < 1 ∨ x.lba < 0 ∨ 512 ≤ x.lba) : fold1 t x = t := by
  unfold fold1
  split
  · rfl
  · next c =>
    unfold Skip at c
    have : clipN x = 0 := by unfold clipN; omega
    rw [this]
    rfl
theorem foldR_nil : foldR [] = [] := nil_runs 512
set_option maxRecDepth 100000 in
theorem run_app_nil (c : Nat) (w : World) : (Builtin.append_ #[55, 55] 55 #[.slice none 0 0, .slice none 0 c]).run Try.prog w = .ok (.slice none 0 0) w := by kernel_rfl
set_option maxRecDepth 100000 in
set_option maxHeartbeats 4000000 in
/-- .. where there is no piece at all. -/
theorem foldsNil (W : World) (ap : Option Addr) {cp : Nat} (hcp : cp ≤ 9223372036854775807) (fl : Bool) :
    Calls Try.prog 8 #[.slice ap 0 cp, .int .i64 0, .bool fl] W fun e w' => e = .returned (.bool true) ∧ Keep (fun _ => False) W w' := by
  have haw := awake_any W
  have ho := fun (w1 : World) (a' : Option Addr) (c' : Nat) (hc : c' ≤ 9223372036854775807) => fold_any (w := w1) (a := a') (cap := c') (l := []) ⟨by simp, hc, Or.inl rfl⟩ (fun x hx => by cases hx)
  rw [foldR_nil, show ([] : List Rn).length = 0 from rfl] at ho
  have happN : ∀ w1 : World, ∃ a5 c5 w5, (Builtin.append_ #[55, 55] 55 #[.slice none 0 0, .slice ap 0 cp]).run Try.prog w1 = .ok (.slice a5 0 c5) w5 ∧ c5 ≤ 9223372036854775807 ∧ Keep (fun _ => False) w1 w5 := fun w1 => by
    cases ap with
    | none => exact ⟨none, 0, w1, run_app_nil cp w1, by omega, Keep.refl _ _⟩
    | some ad =>
      obtain ⟨a5, c5, w5, h1, h2, -⟩ := (Rq.nil w1).appN ad cp [] (by simp) (fun j u hu => by simp [rcells] at hu)
      exact ⟨a5, c5, w5, h1, h2.rs.2.1, h2.keep⟩
  have n8 := fun w => newS fl (w := w) (C := 512) (N := 512) (by omega) (by omega) (by omega) (by omega)
  rw [show ((512 : Nat) : Int) = 512 from rfl] at n8
  have hs9 : ∀ (w1 : World) (a1 a2 : Option Addr) (c1 c2 : Nat), Rs w1 a1 c1 [] → Rs w1 a2 c2 [] → Calls Try.prog 16 #[.slice a1 0 c1, .slice a2 0 c2] w1 fun e w' => e = .returned (.bool true) ∧ Keep (fun _ => False) w1 w' := fun w1 a1 a2 c1 c2 h1 h2 => same9 h1 h2 (by simp)
  have hrn : refR (List.replicate 512 (-1)) 512 = [] := nil_runs 512
  cases ap with
  | none =>
    go_enter Try.func8, Try.ntmps8
    go_upto_region 5 with (go_at_call 9; refine haw.mono ?_; rintro e w1 ⟨rfl, k1⟩)
    clear haw
    go_wp2_with fail
    refine (ho w1 _ _ hcp).mono ?_
    rintro e w2 ⟨a2, c2, rfl, R2, k2', -⟩
    have k2 := k1.trans k2'
    clear k1 k2'
    go_wp2_with fail
    refine (ho w2 _ _ (by omega)).mono ?_
    rintro e w3 ⟨a3, c3, rfl, R3, k3', -⟩
    have k3 := k2.trans k3'
    have S3 := R2.more k3'
    clear k2 k3' R2 R3
    go_wp2_with fail
    go_loopw [9, 10] (fun qv v wx => qv = .slice none 0 0 ∧ v = .int .i64 0 ∧ wx = w3) (fun _ _ _ => 0)
    case atStart => exact ⟨rfl, rfl, rfl⟩
    case round =>
      obtain ⟨rfl, rfl, rfl⟩ := hrel
      obtain ⟨a5, c5, w5, happ, hc5, k5'⟩ := happN wr
      have k5 := k3.trans k5'
      have S5 := S3.more k5'
      clear happN k3 S3 k5'
      go_wp2_with (at_builtin; refine wpList_append_run rfl (.tmp 68) (.tmp 71) 55 rfl (by rfl) (by rfl) happ ?_)
      refine (ho w5 _ _ hc5).mono ?_
      rintro e w6 ⟨a6, c6, rfl, R6, k6', -⟩
      have k6 := k5.trans k6'
      have S6 := S5.more k6'
      have c7 := hs9 w6 a6 a2 c6 c2 R6 S6
      clear happ k5 S5 k6' ho R6
      go_wp2_with fail
      refine c7.mono ?_
      rintro e w7 ⟨rfl, k7'⟩
      have k7 := k6.trans k7'
      have S7 := S6.more k7'
      clear c7 k7' S6 k6
      go_wp2_with fail
      refine (n8 _).mono ?_
      rintro e w8 ⟨q, S, rfl, M8⟩
      have S8 := S7.more M8.keep
      have k8 := k7.trans M8.keep
      clear n8 S7 k7
      go_wp2_with fail
      go_loopw [13] (fun v wx => v = .int .i64 0 ∧ wx = w8) (fun _ _ => 0)
      case atStart => exact ⟨rfl, rfl⟩
      case round =>
        obtain ⟨rfl, rfl⟩ := hrel
        have c9 := M8.runs
        rw [hrn, show ([] : List Rn).length = 0 from rfl] at c9
        clear M8
        cases fl with
        | false =>
          unfold fRuns at c9
          unfold mapV
          have m9 := mRuns44 q
          go_wp2_with fail
          refine c9.mono ?_
          rintro e w10 ⟨a10, d10, rfl, R10, k10, -⟩
          have c11 := hs9 w10 a10 a2 d10 c2 R10 (S8.more k10)
          have HK10 := k8.trans k10
          clear c9 R10 S8 k10
          go_wp2_with fail
          refine c11.mono ?_
          rintro e w11 ⟨rfl, k11⟩
          have HK11 := HK10.trans k11
          clear c11
          go_wp2_with fail
          go_ret
          exact ⟨rfl, HK11⟩
        | true =>
          unfold fRuns at c9
          unfold mapV
          have m9 := mRuns47 q
          go_wp2_with fail
          refine c9.mono ?_
          rintro e w10 ⟨a10, d10, rfl, R10, k10, -⟩
          have c11 := hs9 w10 a10 a2 d10 c2 R10 (S8.more k10)
          have HK10 := k8.trans k10
          clear c9 R10 S8 k10
          go_wp2_with fail
          refine c11.mono ?_
          rintro e w11 ⟨rfl, k11⟩
          have HK11 := HK10.trans k11
          clear c11
          go_wp2_with fail
          go_ret
          exact ⟨rfl, HK11⟩
  | some ad =>
    go_enter Try.func8, Try.ntmps8
    go_upto_region 5 with (go_at_call 9; refine haw.mono ?_; rintro e w1 ⟨rfl, k1⟩)
    clear haw
    go_wp2_with fail
    refine (ho w1 _ _ hcp).mono ?_
    rintro e w2 ⟨a2, c2, rfl, R2, k2', -⟩
    have k2 := k1.trans k2'
    clear k1 k2'
    go_wp2_with fail
    refine (ho w2 _ _ (by omega)).mono ?_
    rintro e w3 ⟨a3, c3, rfl, R3, k3', -⟩
    have k3 := k2.trans k3'
    have S3 := R2.more k3'
    clear k2 k3' R2 R3
    go_wp2_with fail
    go_loopw [9, 10] (fun qv v wx => qv = .slice none 0 0 ∧ v = .int .i64 0 ∧ wx = w3) (fun _ _ _ => 0)
    case atStart => exact ⟨rfl, rfl, rfl⟩
    case round =>
      obtain ⟨rfl, rfl, rfl⟩ := hrel
      obtain ⟨a5, c5, w5, happ, hc5, k5'⟩ := happN wr
      have k5 := k3.trans k5'
      have S5 := S3.more k5'
      clear happN k3 S3 k5'
      go_wp2_with (at_builtin; refine wpList_append_run rfl (.tmp 68) (.tmp 71) 55 rfl (by rfl) (by rfl) happ ?_)
      refine (ho w5 _ _ hc5).mono ?_
      rintro e w6 ⟨a6, c6, rfl, R6, k6', -⟩
      have k6 := k5.trans k6'
      have S6 := S5.more k6'
      have c7 := hs9 w6 a6 a2 c6 c2 R6 S6
      clear happ k5 S5 k6' ho R6
      go_wp2_with fail
      refine c7.mono ?_
      rintro e w7 ⟨rfl, k7'⟩
      have k7 := k6.trans k7'
      have S7 := S6.more k7'
      clear c7 k7' S6 k6
      go_wp2_with fail
      refine (n8 _).mono ?_
      rintro e w8 ⟨q, S, rfl, M8⟩
      have S8 := S7.more M8.keep
      have k8 := k7.trans M8.keep
      clear n8 S7 k7
      go_wp2_with fail
      go_loopw [13] (fun v wx => v = .int .i64 0 ∧ wx = w8) (fun _ _ => 0)
      case atStart => exact ⟨rfl, rfl⟩
      case round =>
        obtain ⟨rfl, rfl⟩ := hrel
        have c9 := M8.runs
        rw [hrn, show ([] : List Rn).length = 0 from rfl] at c9
        clear M8
        cases fl with
        | false =>
          unfold fRuns at c9
          unfold mapV
          have m9 := mRuns44 q
          go_wp2_with fail
          refine c9.mono ?_
          rintro e w10 ⟨a10, d10, rfl, R10, k10, -⟩
          have c11 := hs9 w10 a10 a2 d10 c2 R10 (S8.more k10)
          have HK10 := k8.trans k10
          clear c9 R10 S8 k10
          go_wp2_with fail
          refine c11.mono ?_
          rintro e w11 ⟨rfl, k11⟩
          have HK11 := HK10.trans k11
          clear c11
          go_wp2_with fail
          go_ret
          exact ⟨rfl, HK11⟩
        | true =>
          unfold fRuns at c9
          unfold mapV
          have m9 := mRuns47 q
          go_wp2_with fail
          refine c9.mono ?_
          rintro e w10 ⟨a10, d10, rfl, R10, k10, -⟩
          have c11 := hs9 w10 a10 a2 d10 c2 R10 (S8.more k10)
          have HK10 := k8.trans k10
          clear c9 R10 S8 k10
          go_wp2_with fail
          refine c11.mono ?_
          rintro e w11 ⟨rfl, k11⟩
          have HK11 := HK10.trans k11
          clear c11
          go_wp2_with fail
          go_ret
          exact ⟨rfl, HK11⟩
set_option maxRecDepth 100000 in
set_option maxHeartbeats 4000000 in
theorem foldsW {W : World} {cut : Int} {ap : Option Addr} {cp : Nat} {p : List Rn} (hp : Rz W ap cp p) (hfp : Fits p) (fl : Bool) :
    Calls Try.prog 8 #[.slice ap p.length cp, .int .i64 cut, .bool fl] W fun e w' => e = .returned (.bool true) ∧ Keep (fun _ => False) W w' := by
  have haw := awake_any W
  have hpc := hp.1
  have hpc2 := hp.2.1
  by_cases h3 : (60 : Int) < (p.length : Int)
  · clear hp hfp
    go_enter Try.func8, Try.ntmps8
    go_wp2_with (go_at_call 9; refine haw.mono ?_; rintro e w1 ⟨rfl, k1⟩)
    go_ret
    exact ⟨rfl, k1⟩
  by_cases h4 : cut < 0
  · clear hp hfp
    go_enter Try.func8, Try.ntmps8
    go_wp2_with (go_at_call 9; refine haw.mono ?_; rintro e w1 ⟨rfl, k1⟩)
    go_ret
    exact ⟨rfl, k1⟩
  by_cases h5 : (p.length : Int) < cut
  · clear hp hfp
    go_enter Try.func8, Try.ntmps8
    go_wp2_with (go_at_call 9; refine haw.mono ?_; rintro e w1 ⟨rfl, k1⟩)
    go_ret
    exact ⟨rfl, k1⟩
  obtain ⟨n, rfl⟩ : ∃ n : Nat, cut = (n : Int) := ⟨cut.toNat, by omega⟩
  by_cases hne : p = []
  · subst hne
    have en : n = 0 := by simp at h5; omega
    subst en
    exact foldsNil W ap hpc2 fl
  have ho := fun w1 (k : Keep (fun _ => False) W w1) => fold_any (hp.more k) hfp
  have hm1 := foldR_len p
  go_enter Try.func8, Try.ntmps8
  go_upto_region 5 with (go_at_call 9; refine haw.mono ?_; rintro e w1 ⟨rfl, k1⟩)
  clear haw
  go_wp2_with fail
  refine (ho w1 k1).mono ?_
  rintro e w2 ⟨a2, c2, rfl, R2, k2', -⟩
  have k2 := k1.trans k2'
  clear ho k1 k2'
  obtain ⟨g, o, rfl, -⟩ := hp.2.2.resolve_left hne
  have hlt1 : (p.take n).length = n := by rw [List.length_take]; omega
  have hld : (p.drop n).length = p.length - n := List.length_drop
  have ho2 := fold_any ((hp.more k2).take n) (hfp.take n)
  rw [hlt1] at ho2
  have hf1 := foldR_len (p.take n)
  have hf2 := @fold_part (p.take n) (p.drop n)
  rw [List.take_append_drop] at hf2
  have hf3 : Fits (foldR (p.take n) ++ p.drop n) := fun x hx => by
    rcases List.mem_append.1 hx with hx | hx
    · exact foldR_fits _ x hx
    · exact hfp.drop n x hx
  generalize foldR (p.take n) = m at ho2 hf1 hf2 hf3
  go_wp2_with fail
  refine ho2.mono ?_
  rintro e w3 ⟨a3, c3, rfl, R3, k3', -⟩
  have k3 := k2.trans k3'
  have S3 := R2.more k3'
  clear ho2 k3' R2 k2
  go_wp2_with fail
  have Q3 : Rq w3 w3 none 0 (m.take 0) := Rq.nil w3
  have hend : m.take m.length = m := List.take_length
  have hmc := R3.1
  have hm1' : (m.length : Int) ≤ 512 := by omega
  go_loopw [9, 10] (fun qv v wx => ∃ (i : Nat) (a' : Option Addr) (c' : Nat), i ≤ m.length ∧ qv = .slice a' (m.take i).length c' ∧ v = .int .i64 (i : Int) ∧ Hid (∀ x ∈ m.take i, x.phys ≤ 1048576) ∧ Rq w3 wx a' c' (m.take i)) (fun _ v _ => m.length - (intOf v).toNat)
  case atStart => exact ⟨0, none, 0, by omega, rfl, rfl, (fun x hx => by cases hx), Q3⟩
  case round =>
    clear Q3
    obtain ⟨i, a', c', hi, rfl, rfl, hI, Q1⟩ := hrel
    by_cases hlt : i < m.length
    · obtain ⟨x, hx⟩ := get_rn hlt
      have S1 := R3.more Q1.keep
      obtain ⟨gm, rfl, y0, y1, y2⟩ := S1.at hx
      have di : (i : Int) < (m.length : Int) := by omega
      by_cases hfx : 1048576 < x.phys
      · have HK := k3.trans Q1.keep
        clear hf2 hf3 hend Q1 S1 S3 R3 hp hfp
        go_wp2_with fail
        go_ret
        exact ⟨rfl, HK⟩
      have hlen : (m.take i).length = i := by rw [List.length_take]; omega
      obtain ⟨aq, cq, w4, happ, Q4⟩ := (Q1.more (Keep.refl (fun _ => False) wr).drew).app1 (by rw [hlen]; omega) x
      rw [← take_more hx] at Q4
      have hS : ∀ w', Keep (fun _ => False) wr.drew w' → w'.cell? ⟨gm, i * 3, none⟩ = some (.int .i64 x.lba) ∧ w'.cell? ⟨gm, i * 3 + 1, none⟩ = some (.int .i64 x.len) ∧ w'.cell? ⟨gm, i * 3 + 2, none⟩ = some (.int .i64 x.phys) := fun w' hk => by
        have kk := (Keep.refl (fun _ => False) wr).drew.trans hk
        exact ⟨kk.cell y0, kk.cell y1, kk.cell y2⟩
      have hI2 : Hid (∀ z ∈ m.take (i + 1), z.phys ≤ 1048576) := fun z hz => by
        rw [take_more hx] at hz
        rcases List.mem_append.1 hz with hz | hz
        · exact (show ∀ x ∈ m.take i, x.phys ≤ 1048576 from hI) z hz
        · simp at hz; subst hz; omega
      have hl2 : Hid ((m.take (i + 1)).length = (m.take i).length + 1) := by
        show (m.take (i + 1)).length = _
        rw [take_more hx]; simp
      obtain ⟨g', eg, u0, u1, u2⟩ := (R3.more Q4.keep).at hx
      injection eg with eg; injection eg with eg; subst eg
      have dw := wrapI (x := (i : Int) + 1) (by omega) (by omega)
      have hlt' : Hid (i < m.length) := hlt
      generalize (m.take i).length = nn at happ hl2 ⊢
      clear hlt hx hlen Q1 S1 R3 hf2 hf3 hend hI S3 hp hfp
      go_wp2_with fail
      go_region_held3 (fun w' => w'.cell? ⟨gm, i * 3, none⟩ = some (.int .i64 x.lba) ∧ w'.cell? ⟨gm, i * 3 + 1, none⟩ = some (.int .i64 x.len) ∧ w'.cell? ⟨gm, i * 3 + 2, none⟩ = some (.int .i64 x.phys)) (first | exact hS _ (Keep.refl _ _) | exact hS _ ((Keep.refl _ _).alloc _) | exact ⟨u0, u1, u2⟩) (refine step_append_run rfl (.tmp 49) (.tmp 66) 55 rfl (by rfl) (by rfl) happ ?_)
      clear happ hS
      go_wp2_with fail
      go_roundw
      case rel => exact ⟨i + 1, aq, cq, hlt', by rw [show (m.take (i + 1)).length = _ from hl2], by go_num, hI2, Q4⟩
      case measure => have : i < m.length := hlt'; simp [intOf]; omega
    · have di : ¬ (i : Int) < (m.length : Int) := by omega
      have ei : i = m.length := by omega
      rw [ei, hend] at Q1 hI ⊢
      have hI' := show ∀ x ∈ m, x.phys ≤ 1048576 from hI
      clear hlt ei hend hI
      have Rd : ∃ ad, (if cp = n then some ⟨g, o, none⟩ else some ⟨g, o + n * 3, none⟩ : Option Addr) = some ad ∧ ∀ j u, (rcells (p.drop n))[j]? = some u → wr.cell? (ad.add j) = some u := by
        by_cases hcn : cp = n
        · rw [if_pos hcn]
          refine ⟨_, rfl, fun j u hu => ?_⟩
          rw [List.drop_of_length_le (by omega)] at hu
          simp [rcells] at hu
        · rw [if_neg hcn]
          refine ⟨_, rfl, fun j u hu => ?_⟩
          rw [Addr.add_lit]
          exact ((hp.more (k3.trans Q1.keep)).drop n (by omega)).cells j u hu
      obtain ⟨ad, had, hcells⟩ := Rd
      obtain ⟨a5, c5, w5, happ, Q5, -⟩ := Q1.appN ad (cp - n) (p.drop n) (by rw [hld]; omega) hcells
      rw [hld] at happ
      have k5 := k3.trans Q5.keep
      have S5 := S3.more Q5.keep
      have c6 := fold_any Q5.rs.rz hf3
      rw [hf2 hI', show (m ++ p.drop n).length = m.length + (p.length - n) by rw [List.length_append, hld]] at c6
      have dn : ((p.length : Int) - n).toNat = p.length - n := by omega
      have dn2 : ((cp : Int) - n).toNat = cp - n := by omega
      clear hcells Q1 Q5 hf2 hf3 hI' R3 S3
      have hm512 : (foldR p).length ≤ 100000 := by omega
      go_wp2_with (at_builtin; refine wpList_append_run rfl (.tmp 68) (.tmp 71) 55 rfl (by rfl) (by rfl) happ ?_)
      refine c6.mono ?_
      rintro e w6 ⟨a6, d6, rfl, R6, k6', -⟩
      have k6 := k5.trans k6'
      have c7 := same9 R6 (S5.more k6') hm512
      have S6 := S5.more k6'
      rw [sameL_refl] at c7
      clear c6 happ k6' S5 R6
      go_wp2_with fail
      refine c7.mono ?_
      rintro e w7 ⟨rfl, k7'⟩
      have k7 := k6.trans k7'
      have S7 := S6.more k7'
      clear c7 k7' S6 k6
      have n8 := fun w => newS fl (w := w) (C := 512) (N := 512) (by omega) (by omega) (by omega) (by omega)
      rw [show ((512 : Nat) : Int) = 512 from rfl] at n8
      go_wp2_with fail
      refine (n8 _).mono ?_
      rintro e w8 ⟨q, S, rfl, M8'⟩
      have S8 := S7.more M8'.keep
      have M8 := M8'.older k7
      have hS7 := fun x e => (M8'.sw x e).1
      clear n8 M8' k7
      have hend : p.take p.length = p := List.take_length
      have hSw := fun x e => (M8.sw x e)
      have hw8 := M8.keep.size
      go_wp2_with fail
      go_loopw [13] (fun v wx => ∃ i : Nat, i ≤ p.length ∧ v = .int .i64 (i : Int) ∧ Sp W wx fl q S (fun _ => False) 512 512 (foldT (p.take i) blank) ∧ Rs wx a2 c2 (foldR p)) (fun v _ => p.length - (intOf v).toNat)
      case atStart => exact ⟨0, by omega, rfl, M8, S8⟩
      case round =>
        clear M8 S8
        obtain ⟨i, hi, rfl, M9, S9⟩ := hrel
        by_cases hlt : i < p.length
        · obtain ⟨x, hx⟩ := get_rn hlt
          obtain ⟨g2, o2, eg, y0, y1, y2⟩ := (hp.more M9.keep).at hx
          injection eg with eg; injection eg with eg1 eg2; subst eg1; subst eg2
          have hfx := hfp x (List.mem_of_getElem? hx)
          have hnext : foldT (p.take (i + 1)) blank = fold1 (foldT (p.take i) blank) x := by
            rw [take_more hx, foldT_app]; rfl
          have K4 : Keep (fun _ => False) wr (wr.alloc (.cells #[.int .i64 x.lba, .int .i64 x.len, .int .i64 x.phys] 57)) := (Keep.refl _ _).alloc _
          have L4 : Blk (wr.alloc (.cells #[.int .i64 x.lba, .int .i64 x.len, .int .i64 x.phys] 57)) wr.heap.size 3 (rcell x) := blk_alloc wr _ 57 3 _ (fun i hi => by
            have : i = 0 ∨ i = 1 ∨ i = 2 := by omega
            rcases this with rfl | rfl | rfl <;> rfl)
          have M4 := M9.more K4
          have S4 := S9.more K4
          have di : (i : Int) < (p.length : Int) := by omega
          have dw := wrapI (x := (i : Int) + 1) (by omega) (by omega)
          have hlt' : Hid (i < p.length) := hlt
          clear hlt hx M9 S9
          go_upto_region 23 with fail
          clear y0 y1 y2
          generalize wr.alloc (.cells #[.int .i64 x.lba, .int .i64 x.len, .int .i64 x.phys] 57) = wt at K4 L4 M4 S4 ⊢
          generalize wr.heap.size = Gt at L4 ⊢
          have l0 : wt.cell? ⟨Gt, 0, none⟩ = some (.int .i64 x.lba) := (L4 0 (by omega)).1
          have l1 : wt.cell? ⟨Gt, 1, none⟩ = some (.int .i64 x.len) := (L4 1 (by omega)).1
          have l2 : wt.cell? ⟨Gt, 2, none⟩ = some (.int .i64 x.phys) := (L4 2 (by omega)).1
          clear K4 L4
          by_cases s1 : x.phys < 0
          · have M5 : Hid (Sp W wt fl q S (fun _ => False) 512 512 (foldT (p.take (i + 1)) blank)) := by show Sp W wt _ _ _ _ _ _ _; rw [hnext, fold_no (by omega)]; exact M4
            clear hnext M4 hp hfp hend
            go_wp2_with fail
            go_roundw
            case rel => exact ⟨i + 1, hlt', by go_num, M5, S4⟩
            case measure => have : i < p.length := hlt'; simp [intOf]; omega
          by_cases s2 : 1048576 < x.phys
          · have M5 : Hid (Sp W wt fl q S (fun _ => False) 512 512 (foldT (p.take (i + 1)) blank)) := by show Sp W wt _ _ _ _ _ _ _; rw [hnext, fold_no (by omega)]; exact M4
            clear hnext M4 hp hfp hend
            go_wp2_with fail
            go_roundw
            case rel => exact ⟨i + 1, hlt', by go_num, M5, S4⟩
            case measure => have : i < p.length := hlt'; simp [intOf]; omega
          by_cases s3 : x.len < 1
          · have M5 : Hid (Sp W wt fl q S (fun _ => False) 512 512 (foldT (p.take (i + 1)) blank)) := by show Sp W wt _ _ _ _ _ _ _; rw [hnext, fold_no (by omega)]; exact M4
            clear hnext M4 hp hfp hend
            go_wp2_with fail
            go_roundw
            case rel => exact ⟨i + 1, hlt', by go_num, M5, S4⟩
            case measure => have : i < p.length := hlt'; simp [intOf]; omega
          by_cases s4 : x.lba < 0
          · have M5 : Hid (Sp W wt fl q S (fun _ => False) 512 512 (foldT (p.take (i + 1)) blank)) := by show Sp W wt _ _ _ _ _ _ _; rw [hnext, fold_no (by omega)]; exact M4
            clear hnext M4 hp hfp hend
            go_wp2_with fail
            go_roundw
            case rel => exact ⟨i + 1, hlt', by go_num, M5, S4⟩
            case measure => have : i < p.length := hlt'; simp [intOf]; omega
          by_cases s5 : 512 ≤ x.lba
          · have M5 : Hid (Sp W wt fl q S (fun _ => False) 512 512 (foldT (p.take (i + 1)) blank)) := by show Sp W wt _ _ _ _ _ _ _; rw [hnext, fold_no (by omega)]; exact M4
            clear hnext M4 hp hfp hend
            go_wp2_with fail
            go_roundw
            case rel => exact ⟨i + 1, hlt', by go_num, M5, S4⟩
            case measure => have : i < p.length := hlt'; simp [intOf]; omega
          have d512 := wrapI (x := 512 - x.lba) (by omega) (by omega)
          by_cases s6 : 512 - x.lba < x.len
          · have c5 := fold_set M4 (x := x) (by omega) (by omega) (by omega) (by omega) (by omega) (n := 512 - x.lba) (by omega)
            rw [← hnext] at c5
            unfold Chd at c5
            clear hnext M4 hp hfp hend
            cases fl with
            | false =>
              unfold fSet at c5
              have ev : mapV false q = .iface 44 (.pointer (some ⟨q, 0, none⟩)) := rfl
              rw [ev]
              have m5 := mSet44 q
              have ev' : Hid (mapV false q = .iface 44 (.pointer (some ⟨q, 0, none⟩))) := ev
              clear ev
              go_wp2_with fail
              refine c5.mono ?_
              rintro e w6 ⟨rfl, M6, k6⟩
              have S6 := S7.beside S4 k6 hS7
              clear c5 S4
              go_wp2_with fail
              rw [← show mapV false q = .iface 44 (.pointer (some ⟨q, 0, none⟩)) from ev']
              go_roundw
              case rel => exact ⟨i + 1, hlt', by go_num, M6, S6⟩
              case measure => have : i < p.length := hlt'; simp [intOf]; omega
            | true =>
              unfold fSet at c5
              have ev : mapV true q = .iface 47 (.pointer (some ⟨q, 0, none⟩)) := rfl
              rw [ev]
              have m5 := mSet47 q
              have ev' : Hid (mapV true q = .iface 47 (.pointer (some ⟨q, 0, none⟩))) := ev
              clear ev
              go_wp2_with fail
              refine c5.mono ?_
              rintro e w6 ⟨rfl, M6, k6⟩
              have S6 := S7.beside S4 k6 hS7
              clear c5 S4
              go_wp2_with fail
              rw [← show mapV true q = .iface 47 (.pointer (some ⟨q, 0, none⟩)) from ev']
              go_roundw
              case rel => exact ⟨i + 1, hlt', by go_num, M6, S6⟩
              case measure => have : i < p.length := hlt'; simp [intOf]; omega
          · have c5 := fold_set M4 (x := x) (by omega) (by omega) (by omega) (by omega) (by omega) (n := x.len) (by omega)
            rw [← hnext] at c5
            unfold Chd at c5
            clear hnext M4 hp hfp hend
            cases fl with
            | false =>
              unfold fSet at c5
              have ev : mapV false q = .iface 44 (.pointer (some ⟨q, 0, none⟩)) := rfl
              rw [ev]
              have m5 := mSet44 q
              have ev' : Hid (mapV false q = .iface 44 (.pointer (some ⟨q, 0, none⟩))) := ev
              clear ev
              go_wp2_with fail
              refine c5.mono ?_
              rintro e w6 ⟨rfl, M6, k6⟩
              have S6 := S7.beside S4 k6 hS7
              clear c5 S4
              go_wp2_with fail
              rw [← show mapV false q = .iface 44 (.pointer (some ⟨q, 0, none⟩)) from ev']
              go_roundw
              case rel => exact ⟨i + 1, hlt', by go_num, M6, S6⟩
              case measure => have : i < p.length := hlt'; simp [intOf]; omega
            | true =>
              unfold fSet at c5
              have ev : mapV true q = .iface 47 (.pointer (some ⟨q, 0, none⟩)) := rfl
              rw [ev]
              have m5 := mSet47 q
              have ev' : Hid (mapV true q = .iface 47 (.pointer (some ⟨q, 0, none⟩))) := ev
              clear ev
              go_wp2_with fail
              refine c5.mono ?_
              rintro e w6 ⟨rfl, M6, k6⟩
              have S6 := S7.beside S4 k6 hS7
              clear c5 S4
              go_wp2_with fail
              rw [← show mapV true q = .iface 47 (.pointer (some ⟨q, 0, none⟩)) from ev']
              go_roundw
              case rel => exact ⟨i + 1, hlt', by go_num, M6, S6⟩
              case measure => have : i < p.length := hlt'; simp [intOf]; omega
        · have di : ¬ (i : Int) < (p.length : Int) := by omega
          have ei : i = p.length := by omega
          rw [ei, hend] at M9
          have c9 := M9.runs
          have HK9 := M9.keep
          rw [show refR (foldT p blank) 512 = foldR p from rfl] at c9
          clear hlt ei hend M9 hp hfp S7
          cases fl with
          | false =>
            unfold fRuns at c9
            unfold mapV
            have m9 := mRuns44 q
            go_wp2_with fail
            refine c9.mono ?_
            rintro e w10 ⟨a10, d10, rfl, R10, k10, -⟩
            have c11 := same9 R10 (S9.more k10) hm512
            rw [sameL_refl] at c11
            have HK10 := HK9.trans k10
            clear c9 R10 S9 k10
            go_wp2_with fail
            refine c11.mono ?_
            rintro e w11 ⟨rfl, k11⟩
            have HK11 := HK10.trans k11
            clear c11
            go_wp2_with fail
            go_ret
            exact ⟨rfl, HK11⟩
          | true =>
            unfold fRuns at c9
            unfold mapV
            have m9 := mRuns47 q
            go_wp2_with fail
            refine c9.mono ?_
            rintro e w10 ⟨a10, d10, rfl, R10, k10, -⟩
            have c11 := same9 R10 (S9.more k10) hm512
            rw [sameL_refl] at c11
            have HK10 := HK9.trans k10
            clear c9 R10 S9 k10
            go_wp2_with fail
            refine c11.mono ?_
            rintro e w11 ⟨rfl, k11⟩
            have HK11 := HK10.trans k11
            clear c11
            go_wp2_with fail
            go_ret
            exact ⟨rfl, HK11⟩
theorem folds_walk {W : World} {ap : Option Addr} {np cp : Nat} (hp : Rows3 W ap np cp) (cut : Int) (fl : Bool) :
    Calls Try.prog 8 #[.slice ap np cp, .int .i64 cut, .bool fl] W fun e w' => e = .returned (.bool true) ∧ Below W.heap.size W w' := by
  obtain ⟨l, rfl, h1, h2⟩ := hp
  exact (foldsW h1 h2 fl).mono fun _ _ ⟨h1, h2⟩ => ⟨h1, h2.below (Nat.le_refl _) (fun _ e => e.elim)⟩
end Tg
end Go.Proofs.Ytkddonmddgfpnaa
