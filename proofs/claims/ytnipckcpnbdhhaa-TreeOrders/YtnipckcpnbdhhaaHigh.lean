/-
  The statement TreeHigh, walked.
-/
import Derived.Test.YtnipckcpnbdhhaaAwake
import Derived.Test.YtnipckcpnbdhhaaHighM
namespace Go.Proofs.Ytnipckcpnbdhhaa
open Go.ChangeShapes Go.WideShapes Go.ChangeAt Go.RowKit
namespace Tg

/-- The tree behind q insertions. -/
structure Hi (w wr : World) (b p k n st q : Nat) : Prop where
  ex : ∃ l t, Mt w wr b p k n l t ∧ t.views.length = q ∧ ∀ x ∈ t.runs, ∃ j, j < q ∧ x.lba = ((j * st % 1009 : Nat) : Int)

theorem Mt.ord {w wr : World} {b p k N : Nat} {l : List Nat} {t : Tr} (h : Mt w wr b p k N l t) : t.Ord := by
  obtain ⟨s, hT, _⟩ := h.ex; exact hT.ord
theorem Mt.bal {w wr : World} {b p k N : Nat} {l : List Nat} {t : Tr} (h : Mt w wr b p k N l t) : t.Bal := by
  obtain ⟨s, hT, _⟩ := h.ex; exact hT.bal

theorem Hi.step {w wr : World} {b p k n st q : Nat} (h : Hi w wr b p k n st q) (h1 : 1 ≤ st) (h2 : st ≤ 1000) (hn : n ≤ 300) (hq : q < n) {z : Int} (hzz : z = ((q * st % 1009 : Nat) : Int)) :
    Calls Try.prog 10 #[.pointer (some ⟨b, 0, none⟩), .agg (rnA ⟨z, 1, 7⟩)] wr fun e w' => e = .returned (.int .i64 0) ∧ Hi w w' b p k n st (q + 1) := by
  subst hzz
  obtain ⟨l, t, hM, hl, hx⟩ := h.ex
  have hr := hM.room
  cases l with
  | nil => simp at hr; omega
  | cons a l =>
    have ho := hM.ord
    have hz : t.idOf ((q * st % 1009 : Nat) : Int) = 0 := by
      by_cases e : t.idOf ((q * st % 1009 : Nat) : Int) = 0
      · exact e
      · obtain ⟨x, hx1, hx2⟩ := (Tr.has_runs ho).1 (hM.has.2 e)
        obtain ⟨j, hj, e2⟩ := hx x hx1
        rw [hx2] at e2
        exact absurd (by omega) (mod_apart h1 h2 hj (by omega))
    refine (hM.insert ⟨((q * st % 1009 : Nat) : Int), 1, 7⟩ hz).mono ?_
    rintro e w' ⟨rfl, hM', hk⟩
    refine ⟨rfl, ⟨l, _, hM', by rw [Tr.views_len, Tr.ins_len, ← Tr.views_len, hl], fun x hx' => ?_⟩⟩
    rcases (Tr.mem_runs_ins ho).1 hx' with rfl | hx'
    · exact ⟨q, by omega, rfl⟩
    · obtain ⟨j, hj, e⟩ := hx x hx'
      exact ⟨j, by omega, e⟩

theorem Hi.more {w wr w' : World} {b p k n st q : Nat} (h : Hi w wr b p k n st q) (hk : Keep (fun _ => False) wr w') : Hi w w' b p k n st q := by
  obtain ⟨l, t, hM, hl, hx⟩ := h.ex
  exact ⟨l, t, hM.more hk, hl, hx⟩

theorem Mt.free {w wr : World} {b p k N : Nat} {l : List Nat} {t : Tr} (h : Mt w wr b p k N l t) :
    Calls Try.prog 23 #[.pointer (some ⟨p, 0, none⟩)] wr fun e w' => ∃ g cap, e = .returned (.slice (some ⟨g, 0, none⟩) l.length cap) ∧ Keep (fun _ => False) wr w' := by
  obtain ⟨s, hT, hN⟩ := h.ex
  refine (free_any hT.mem hT.ok).mono ?_
  rintro e w' ⟨g, cap, rfl, hg⟩
  exact ⟨g, cap, rfl, hg.keep⟩

/-- The table of the statement: the least number of nodes of each height. -/
def tabA : Array Value := #[.int .i64 0, .int .i64 1, .int .i64 2, .int .i64 4, .int .i64 7, .int .i64 12, .int .i64 20, .int .i64 33, .int .i64 54, .int .i64 88, .int .i64 143, .int .i64 232, .int .i64 376]
theorem tab_at (w : World) (h : Nat) (hh : h ≤ 11) : (w.alloc (.cells tabA 3)).cell? ⟨w.heap.size, h, none⟩ = some (.int .i64 (Tr.least h : Int)) := by
  rw [World.cell?_alloc_mark]
  have : h = 0 ∨ h = 1 ∨ h = 2 ∨ h = 3 ∨ h = 4 ∨ h = 5 ∨ h = 6 ∨ h = 7 ∨ h = 8 ∨ h = 9 ∨ h = 10 ∨ h = 11 := by omega
  rcases this with rfl | rfl | rfl | rfl | rfl | rfl | rfl | rfl | rfl | rfl | rfl | rfl <;> rfl

set_option maxRecDepth 100000 in
set_option maxHeartbeats 2000000 in
theorem high_out (w : World) (n st : Int) (hb : n < 1 ∨ 300 < n ∨ st < 1 ∨ 1000 < st) : Calls Try.prog 5 #[.int .i64 n, .int .i64 st] w fun e w' => e = .returned (.bool true) ∧ Keep (fun _ => False) w w' := by
  have haw := awake_any w
  by_cases h1 : n < 1
  · clear hb
    go_enter Try.func5, Try.ntmps5
    go_wp2_with (go_at_call 7; refine haw.mono ?_; rintro e w0 ⟨rfl, k0⟩)
    go_ret
    exact ⟨rfl, k0⟩
  · by_cases h2 : 300 < n
    · clear hb
      have h1' : ¬ n < 1 := h1
      go_enter Try.func5, Try.ntmps5
      go_wp2_with (go_at_call 7; refine haw.mono ?_; rintro e w0 ⟨rfl, k0⟩)
      go_ret
      exact ⟨rfl, k0⟩
    · by_cases h3 : st < 1
      · clear hb
        go_enter Try.func5, Try.ntmps5
        go_wp2_with (go_at_call 7; refine haw.mono ?_; rintro e w0 ⟨rfl, k0⟩)
        go_ret
        exact ⟨rfl, k0⟩
      · have h4 : 1000 < st := by omega
        clear hb
        go_enter Try.func5, Try.ntmps5
        go_wp2_with (go_at_call 7; refine haw.mono ?_; rintro e w0 ⟨rfl, k0⟩)
        go_ret
        exact ⟨rfl, k0⟩

set_option maxRecDepth 100000 in
set_option maxHeartbeats 4000000 in
theorem high_in (w : World) (n st : Nat) (n1 : 1 ≤ n) (n2 : n ≤ 300) (s1 : 1 ≤ st) (s2 : st ≤ 1000) : Calls Try.prog 5 #[.int .i64 (n : Int), .int .i64 (st : Int)] w fun e w' => e = .returned (.bool true) ∧ Keep (fun _ => False) w w' := by
  have haw := awake_any w
  have d1 : ¬ (n : Int) < 1 := by omega
  have d2 : ¬ (300 : Int) < n := by omega
  have d3 : ¬ (st : Int) < 1 := by omega
  have d4 : ¬ (1000 : Int) < st := by omega
  have d5 : ((st : Int).tmod 1009 == 0) = false := by
    rw [Int.tmod_eq_emod_of_nonneg (by omega)]
    simp
    omega
  go_enter Try.func5, Try.ntmps5
  go_wp2_with (go_at_call 7; refine haw.mono ?_; rintro e w0 ⟨rfl, k0⟩)
  have hnew := arena_any w0 n1 (by omega)
  refine hnew.mono ?_
  rintro e w1 ⟨p, k, rfl, m1, hp, hkk, k1⟩
  clear hnew haw
  have hnew := Mt.new (w := w0) n1 (by omega) m1 hp hkk k1
  generalize hb : w1.heap.size = b at hnew
  clear hb m1 hp hkk k1
  go_wp2_with fail
  refine hnew.mono ?_
  rintro e w2 ⟨rfl, h2, -⟩
  clear hnew
  have H2 : Hi w0 w2 b p k n st 0 := ⟨_, _, h2, rfl, fun x hx => by simp [Tr.runs, Tr.seq] at hx⟩
  clear h2
  go_wp2_with fail
  go_loopw [8] (fun c wr => ∃ q : Nat, q ≤ n ∧ c = .int .i64 (q : Int) ∧ Hi w0 wr b p k n st q) (fun c _ => n - (intOf c).toNat)
  case atStart => exact ⟨0, by omega, rfl, H2⟩
  case round =>
    obtain ⟨q, hq, rfl, hH⟩ := hrel
    clear H2
    by_cases hlt : q < n
    · have dq : (q : Int) < (n : Int) := by omega
      have hle : q * st ≤ 300 * 1000 := Nat.mul_le_mul (by omega) s2
      have dm : IntKind.i64.wrap ((q : Int) * (st : Int)) = ((q * st : Nat) : Int) := by
        rw [← Int.natCast_mul, IntKind.wrap_i64]; omega
      have dt : (((q * st : Nat) : Int)).tmod 1009 = ((q * st % 1009 : Nat) : Int) := by
        rw [Int.tmod_eq_emod_of_nonneg (by omega)]; omega
      have dq1 : IntKind.i64.wrap ((q : Int) + 1) = (q : Int) + 1 := by rw [IntKind.wrap_i64]; omega
      have hlt' : Hid (q < n) := hlt
      obtain ⟨m, hm⟩ : ∃ m, m = q * st := ⟨_, rfl⟩
      have hz : ((m : Int) % 1009) = ((q * st % 1009 : Nat) : Int) := by rw [hm]; omega
      rw [← hm] at dm dt hle
      have hz' : Hid (((m : Int) % 1009) = ((q * st % 1009 : Nat) : Int)) := hz
      clear hm hz hlt
      have hrun := run_any wr ((m : Int) % 1009)
      rw [rnA_lit] at hrun
      go_wp2_with fail
      refine hrun.mono ?_
      rintro e w3 ⟨rfl, k3⟩
      have hins := (hH.more k3).step s1 s2 n2 hlt' hz'
      rw [rnA_lit] at hins
      clear hrun hH k3
      go_wp2_with (go_at_call 10; refine hins.mono ?_; rintro e w4 ⟨rfl, h4⟩)
      go_roundw
      case rel => exact ⟨q + 1, hlt', by go_num, h4⟩
      case measure => have : q < n := hlt'; simp [intOf]; omega
    · have dq : ¬ (q : Int) < (n : Int) := by omega
      obtain rfl : q = n := by omega
      obtain ⟨l, t, hM, hl, -⟩ := hH.ex
      have hvw := hM.views
      have hbal := hM.bal
      obtain ⟨hh1, hh2⟩ := Tr.high hbal (by omega)
      have hl' : Hid (t.views.length = q) := hl
      rw [hl] at hvw
      clear hH hl hbal
      go_wp2_with fail
      refine hvw.mono ?_
      rintro e w3 ⟨rfl, R3, k3⟩
      have h3 := hM.more k3
      have hG : w0.heap.size ≤ wr.heap.size := hM.keep.size
      have hlt := hM.lt
      generalize wr.heap.size = G at R3 hG hlt ⊢
      clear hvw hM k3
      have hlen : (q : Int) ≤ 9223372036854775807 := by omega
      have d6 : ¬ (11 : Int) < (t.h : Int) := by omega
      have d7 : ¬ (q : Int) < (Tr.least t.h : Int) := by rw [(show t.views.length = q from hl')] at hh2; omega
      have hc1 : (t.h : Int) < 13 := by omega
      have hh1' : Hid (t.h ≤ 11) := hh1
      have n1' : Hid (1 ≤ q) := n1
      have n2' : Hid (q ≤ 300) := n2
      clear hh2 hh1 n1 n2 hq
      go_wp2_with fail
      go_loopw [10, 11] (fun c a wx => ∃ (i : Nat) (hc : Int), i ≤ q ∧ c = .int .i64 hc ∧ a = .int .i64 (i : Int) ∧ 0 ≤ hc ∧ hc ≤ (t.h : Int) ∧ (∀ v ∈ t.views.take i, v.h ≤ hc) ∧ w3 = wx) (fun _ a _ => q - (intOf a).toNat)
      case atStart => exact ⟨0, 0, by omega, rfl, rfl, by omega, by omega, by simp, rfl⟩
      case round =>
        obtain ⟨i, hc, hi, rfl, rfl, c0, c1, hall, rfl⟩ := hrel
        by_cases hlt2 : i < q
        · have di : (i : Int) < (q : Int) := by omega
          have di1 : IntKind.i64.wrap ((i : Int) + 1) = (i : Int) + 1 := by have : q ≤ 300 := n2'; rw [IntKind.wrap_i64]; omega
          obtain ⟨v, hv⟩ : ∃ v, t.views[i]? = some v := ⟨_, List.getElem?_eq_getElem (by rw [(show t.views.length = q from hl')]; exact hlt2)⟩
          have cv : w3.cell? ⟨G, i * 7 + 3, none⟩ = some (.int .i64 v.h) := R3.cells (i * 7 + 3) _ (by rw [vcells_at hv 3 (by omega)]; rfl)
          have htk : t.views.take (i + 1) = t.views.take i ++ [v] := by rw [List.take_add_one, hv]; rfl
          have hvm : v ∈ t.views := List.mem_of_getElem? hv
          have hvh := Tr.views_h hvm
          have hlt2' : Hid (i < q) := hlt2
          have hall' : Hid (∀ v ∈ t.views.take i, v.h ≤ hc) := hall
          have htk' : Hid (t.views.take (i + 1) = t.views.take i ++ [v]) := htk
          have hvh' : Hid (v.h ≤ (t.h : Int)) := hvh
          clear hlt2 hall htk hv hvm hvh d6 d7 hc1
          by_cases e : hc < v.h
          · go_wp2_with fail
            go_roundw
            case rel =>
              refine ⟨i + 1, v.h, hlt2', rfl, by go_num, by omega, hvh', ?_, trivial⟩
              rw [(show t.views.take (i + 1) = t.views.take i ++ [v] from htk')]
              intro y hy
              rcases List.mem_append.1 hy with hy | hy
              · have : y.h ≤ hc := hall' y hy; omega
              · simp at hy; subst hy; exact Int.le_refl _
            case measure => have : i < q := hlt2'; simp [intOf]; omega
          · go_wp2_with fail
            go_roundw
            case rel =>
              refine ⟨i + 1, hc, hlt2', rfl, by go_num, c0, c1, ?_, trivial⟩
              rw [(show t.views.take (i + 1) = t.views.take i ++ [v] from htk')]
              intro y hy
              rcases List.mem_append.1 hy with hy | hy
              · exact hall' y hy
              · simp at hy; subst hy; omega
            case measure => have : i < q := hlt2'; simp [intOf]; omega
        · have di : ¬ (i : Int) < (q : Int) := by omega
          obtain rfl : i = q := by omega
          have hce : hc = (t.h : Int) := by
            obtain ⟨v, hv, e⟩ := Tr.views_top (t := t) (by rw [(show t.views.length = i from hl')]; exact n1')
            have := hall v (by rw [List.take_of_length_le (by rw [(show t.views.length = i from hl')]; omega)]; exact hv)
            omega
          subst hce
          have htab := tab_at w3 t.h hh1'
          have hKt : Keep (fun _ => False) w3 (w3.alloc (.cells tabA 3)) := (Keep.refl _ _).alloc _
          have h4 := h3.more hKt
          have R4 := R3.more hKt
          unfold tabA at htab h4 R4
          clear hall c0 c1 hKt R3 h3 hi hlt2
          go_wp2_with fail
          have hvr : Hid (t.views.map (·.x) = t.runs) := Tr.views_runs t
          generalize w3.alloc (.cells #[.int .i64 0, .int .i64 1, .int .i64 2, .int .i64 4, .int .i64 7, .int .i64 12, .int .i64 20, .int .i64 33, .int .i64 54, .int .i64 88, .int .i64 143, .int .i64 232, .int .i64 376] 3) = w4 at h4 R4 htab ⊢
          clear htab d6 d7 hc1
          go_loopw [13] (fun a wx => ∃ (j : Nat) (l' : List Nat) (t' : Tr), j ≤ i ∧ a = .int .i64 (j : Int) ∧ Mt w0 wx b p k i l' t' ∧ t'.runs = t.runs.drop j ∧ Rw wx G (i * 7) (vcells t.views)) (fun a _ => i - (intOf a).toNat)
          case atStart => exact ⟨0, l, t, by omega, rfl, h4, rfl, R4⟩
          case round =>
            obtain ⟨j, l', t', hj, rfl, h5, hru, R5⟩ := hrel
            clear h4 R4
            by_cases hlt3 : j < i
            · have dj : (j : Int) < (i : Int) := by omega
              have dj1 : IntKind.i64.wrap ((j : Int) + 1) = (j : Int) + 1 := by have : i ≤ 300 := n2'; rw [IntKind.wrap_i64]; omega
              obtain ⟨v, hv⟩ : ∃ v, t.views[j]? = some v := ⟨_, List.getElem?_eq_getElem (by rw [(show t.views.length = i from hl')]; exact hlt3)⟩
              have hrj : t.runs[j]? = some v.x := by rw [← (show t.views.map (·.x) = t.runs from hvr), List.getElem?_map, hv]; rfl
              have hdr : t'.runs = v.x :: t.runs.drop (j + 1) := by
                rw [hru, List.drop_eq_getElem_cons (List.getElem?_eq_some_iff.1 hrj).1]
                congr 1
                exact (List.getElem?_eq_some_iff.1 hrj).2
              have hho : t'.idOf v.x.lba ≠ 0 := h5.has.1 ((Tr.has_runs h5.ord).2 ⟨v.x, by rw [hdr]; simp, rfl⟩)
              have hdel := h5.delete v.x.lba hho
              have hdf := Tr.del_first h5.ord hdr
              have cv : wr.cell? ⟨G, j * 7 + 4, none⟩ = some (.int .i64 v.x.lba) := R5.cells (j * 7 + 4) _ (by rw [vcells_at hv 4 (by omega)]; rfl)
              have hout : ¬ Own3 b p k G := by rintro (e | e | e) <;> omega
              have hlt3' : Hid (j < i) := hlt3
              have hdf' : Hid ((t'.del v.x.lba).runs = t.runs.drop (j + 1)) := hdf
              clear hlt3 hdf hru hdr hho hv hrj h5
              go_wp2_with (go_at_call 13; refine hdel.mono ?_; rintro e w6 ⟨rfl, h6, k6⟩)
              go_roundw
              case rel => exact ⟨j + 1, _, _, hlt3', by go_num, h6, hdf', R5.keep k6 hout⟩
              case measure => have : j < i := hlt3'; simp [intOf]; omega
            · have dj : ¬ (j : Int) < (i : Int) := by omega
              have hr0 : t'.runs = [] := by
                rw [hru, List.drop_eq_nil_iff, ← (show t.views.map (·.x) = t.runs from hvr), List.length_map, (show t.views.length = i from hl')]; omega
              have hv0 : t'.views.length = 0 := by
                have := congrArg List.length t'.views_runs
                rw [hr0] at this; simpa using this
              have hroom := h5.room
              rw [hv0] at hroom
              have hll : l'.length = i := by omega
              have hlen5 := h5.len
              have hlive := h5.live
              have hfree := h5.free
              have HK := k0.trans h5.keep
              rw [hv0] at hlen5 hlive
              rw [show ((0 : Nat) : Int) = 0 from rfl] at hlen5 hlive
              rw [hll] at hfree
              clear hr0 hv0 hroom hll h5 hru R5
              go_wp2_with (first | (go_at_call 15; refine hlen5.mono ?_; rintro e w' ⟨rfl, rfl⟩) | (go_at_call 22; refine hlive.mono ?_; rintro e w' ⟨rfl, rfl⟩) | (go_at_call 23; refine hfree.mono ?_; rintro e w6 ⟨g, cap, rfl, k6⟩))
              go_ret
              exact ⟨rfl, HK.trans k6⟩

theorem high_walk (w : World) (n st : Int) : Calls Try.prog 5 #[.int .i64 n, .int .i64 st] w fun e w' => e = .returned (.bool true) ∧ Below w.heap.size w w' := by
  have hb : ∀ e w', e = Ending.returned (.bool true) ∧ Keep (fun _ => False) w w' → e = Ending.returned (.bool true) ∧ Below w.heap.size w w' := fun e w' h => ⟨h.1, h.2.below (Nat.le_refl _) (fun _ e => e.elim)⟩
  by_cases h : n < 1 ∨ 300 < n ∨ st < 1 ∨ 1000 < st
  · exact (high_out w n st h).mono hb
  · obtain ⟨a, rfl⟩ := Int.eq_ofNat_of_zero_le (show 0 ≤ n by omega)
    obtain ⟨c, rfl⟩ := Int.eq_ofNat_of_zero_le (show 0 ≤ st by omega)
    exact (high_in w a c (by omega) (by omega) (by omega) (by omega)).mono hb
end Tg
end Go.Proofs.Ytnipckcpnbdhhaa
