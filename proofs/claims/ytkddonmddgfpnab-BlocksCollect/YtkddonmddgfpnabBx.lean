/-
  The document's own Split and Moves, walked.
-/
import Derived.Test.YtkddonmddgfpnabBv
namespace Go.Proofs.Ytkddonmddgfpnab
open Go.ChangeShapes Go.WideShapes Go.ChangeAt Go.RowKit
namespace Tg
theorem partK_succ (pages lba phys : Int) (k : Nat) : partK pages lba phys (k + 1) = if k = 0 ∨ (phys + (k : Int)) % pages = 0 then partK pages lba phys k ++ [⟨lba + (k : Int), 1, phys + (k : Int)⟩] else grow (partK pages lba phys k) := rfl
set_option maxRecDepth 100000 in
set_option maxHeartbeats 1000000 in
theorem rsplit {w : World} {a : Option Addr} {cap : Nat} {l : List Rn} (hR : Rz w a cap l) (hF : Ft13 l) {pages : Int} (hp : 1 ≤ pages ∧ pages ≤ 32) :
    Calls Try.prog 27 #[.slice a l.length cap, .int .i64 pages] w fun e w' => ∃ a' c', e = .returned (.slice a' (splL pages l).length c') ∧ Rr w w' a' c' (splL pages l) := by
  have hlc := hR.1
  have hlc2 := hR.2.1
  have hl5 := hF.len
  obtain ⟨m, hm⟩ : ∃ m, m = l.length := ⟨_, rfl⟩
  have hm' : Hid (m = l.length) := hm
  rw [← hm] at hlc hl5 ⊢
  clear hm
  obtain ⟨hmk, R0⟩ := rr_made w
  have R0 : Rr w (w.alloc (.cells (madeCells #[.int .i64 0, .int .i64 0, .int .i64 0] (0 * 3)) 35)) (some ⟨w.heap.size, 0, none⟩) 0 (splL pages (l.take 0)) := R0
  generalize w.alloc (.cells (madeCells #[.int .i64 0, .int .i64 0, .int .i64 0] (0 * 3)) 35) = w1 at hmk R0
  generalize hG : w.heap.size = gv at hmk R0
  have hp0 : ¬ pages = 0 := by omega
  go_enter Try.func27, Try.ntmps27
  go_wp2_with fail
  clear hmk
  go_loopw [5, 6] (fun rv v wx => ∃ (i n c' : Nat) (a' : Option Addr), i ≤ m ∧ v = .int .i64 (i : Int) ∧ rv = .slice a' n c' ∧ Hid (n = (splL pages (l.take i)).length) ∧ Rr w wx a' c' (splL pages (l.take i))) (fun _ v _ => m - (intOf v).toNat)
  case atStart => exact ⟨0, 0, 0, _, by omega, rfl, rfl, rfl, R0⟩
  case round =>
    clear R0
    obtain ⟨i, n, c', a', hi, rfl, rfl, hn, R1⟩ := hrel
    by_cases hlt : i < m
    · obtain ⟨x, hx⟩ := get_rn (m := l) (i := i) (by rw [← show m = l.length from hm']; exact hlt)
      have hb := hF.bd (List.mem_of_getElem? hx)
      obtain ⟨g, o, rfl, -⟩ := hR.at hx
      have hcell : Hid (∀ wx, Keep (fun _ => False) w wx → wx.cell? ⟨g, o + i * 3, none⟩ = some (.int .i64 x.lba) ∧ wx.cell? ⟨g, o + i * 3 + 1, none⟩ = some (.int .i64 x.len) ∧ wx.cell? ⟨g, o + i * 3 + 2, none⟩ = some (.int .i64 x.phys)) := fun wx k => by
        obtain ⟨g', o', e, c0, c1, c2⟩ := (hR.more k).at hx
        injection e with e
        injection e with e1 e2
        subst e1 e2
        exact ⟨c0, c1, c2⟩
      have hnx : l.take (i + 1) = l.take i ++ [x] := take_next hx
      have di : (i : Int) < (m : Int) := by omega
      have dw := wrapI (x := (i : Int) + 1) (by omega) (by omega)
      have hlt' : Hid (i < m) := hlt
      have hsl : Hid ((splL pages (l.take i)).length ≤ 262144) := by
        have := splL_len (pages := pages) (l := l.take i) (fun y hy => by have := hF.bd (List.mem_of_mem_take hy); omega)
        have h2 : (l.take i).length ≤ 512 := Nat.le_trans (List.length_take_le _ _) (by omega)
        show _ ≤ _
        omega
      obtain ⟨L, hL⟩ : ∃ L : Nat, x.len = (L : Int) := ⟨x.len.toNat, by omega⟩
      have hend : Hid (splL pages (l.take i) ++ partK pages x.lba x.phys L = splL pages (l.take (i + 1))) := by
        show _ = _
        rw [hnx, splL_snoc]
        unfold parts
        rw [hL, Int.toNat_natCast]
      have R1' : Rr w wr a' c' (splL pages (l.take i) ++ partK pages x.lba x.phys 0) := by rw [show partK pages x.lba x.phys 0 = [] from rfl, List.append_nil]; exact R1
      have hn' : Hid (n = (splL pages (l.take i) ++ partK pages x.lba x.phys 0).length) := by rw [show partK pages x.lba x.phys 0 = [] from rfl, List.append_nil]; exact hn
      clear hlt hx hnx R1 hn
      generalize splL pages (l.take i) = B at hsl hend R1' hn'
      go_wp2_with fail
      go_loopw [5, 7] (fun rv v wx => ∃ (k n c' : Nat) (a' : Option Addr), k ≤ L ∧ v = .int .i64 (k : Int) ∧ rv = .slice a' n c' ∧ Hid (n = (B ++ partK pages x.lba x.phys k).length) ∧ Rr w wx a' c' (B ++ partK pages x.lba x.phys k)) (fun _ v _ => L - (intOf v).toNat)
      case atStart => exact ⟨0, n, c', a', by omega, rfl, rfl, hn', R1'⟩
      case round =>
        clear R1' hn'
        obtain ⟨k, n, c', a', hk, rfl, rfl, hn, R⟩ := hrel
        obtain ⟨c0, c1, c2⟩ := (show ∀ wx, _ → _ from hcell) wr R.keep
        rw [hL] at c1
        by_cases hlt2 : k < L
        · have dk : (k : Int) < (L : Int) := by omega
          have dw2 := wrapI (x := (k : Int) + 1) (by omega) (by omega)
          have f1 : IntKind.i64.wrap (x.phys + (k : Int)) = x.phys + (k : Int) := wrapI (by omega) (by omega)
          have f2 : IntKind.i64.wrap (x.lba + (k : Int)) = x.lba + (k : Int) := wrapI (by omega) (by omega)
          have hpl := partK_len pages x.lba x.phys k
          have hnb : n ≤ 300000 := by
            rw [show n = _ from hn, List.length_append]
            have := show B.length ≤ 262144 from hsl
            omega
          have hlt2' : Hid (k < L) := hlt2
          have hm0 : 0 ≤ (x.phys + (k : Int)) % pages ∧ (x.phys + (k : Int)) % pages < pages := ⟨Int.emod_nonneg _ (by omega), Int.emod_lt_of_pos _ (by omega)⟩
          obtain ⟨r, hr⟩ : ∃ r, r = (x.phys + (k : Int)) % pages := ⟨_, rfl⟩
          have f3 : (x.phys + (k : Int)).tmod pages = r := by rw [Int.tmod_eq_emod_of_nonneg (by omega)]; exact hr.symm
          rw [← hr] at hm0
          have f4 : IntKind.i64.wrap r = r := wrapI (by omega) (by omega)
          have hps := partK_succ pages x.lba x.phys k
          rw [← hr] at hps
          by_cases hc : k = 0 ∨ r = 0
          · rw [if_pos hc] at hps
            obtain ⟨a2, c2', w3, happ, R2⟩ := R.app1L (by rw [← show n = _ from hn]; omega) ⟨x.lba + (k : Int), 0, x.phys + (k : Int)⟩
            rw [← show n = _ from hn] at happ
            obtain ⟨g2, rfl, f5, f6, f7⟩ := R2.rs.at (i := (B ++ partK pages x.lba x.phys k).length) (x := ⟨x.lba + (k : Int), 0, x.phys + (k : Int)⟩) (by simp)
            have hfz := R2.own.frozenAt ((B ++ partK pages x.lba x.phys k).length * 3 + 1)
            have R3 := R2.setLen 1
            have hrc := R2.rs.1
            rw [List.length_append, ← show n = _ from hn, List.length_singleton] at hrc
            rw [← show n = _ from hn] at f6 hfz R3
            rw [List.append_assoc, ← hps] at R3
            have hn3 : Hid (n + 1 = (B ++ partK pages x.lba x.phys (k + 1)).length) := by show _ = _; rw [hps, ← List.append_assoc, List.length_append, ← show n = _ from hn]; rfl
            have dn : IntKind.i64.wrap (((n + 1 : Nat) : Int) - 1) = (n : Int) := by rw [wrapI (by omega) (by omega)]; omega
            have dn2 : (n : Int) < ((n + 1 : Nat) : Int) := by omega
            clear hlt2 R R2 hps hm0 hpl hn f5 f7
            by_cases hk0 : k = 0
            · have g1 : ((k : Int) == 0) = true := by rw [beq_iff_eq]; omega
              have g2' : decide ((k : Int) = 0) = true := decide_eq_true (by omega)
              have hk0' : Hid (k = 0) := hk0
              clear hc hk0 hr
              go_wp2_with (at_builtin; refine wpList_append_run rfl (.tmp 40) (.tmp 50) 27 rfl (by rfl) (by rfl) happ ?_)
              go_roundw
              case rel => exact ⟨k + 1, n + 1, c2', _, hlt2', by go_num, rfl, hn3, R3⟩
              case measure => have : k < L := hlt2'; simp [intOf]; omega
            · have hr0 : r = 0 := hc.resolve_left hk0
              have g1 : ((k : Int) == 0) = false := by rw [beq_eq_false_iff_ne]; omega
              have g2' : decide ((k : Int) = 0) = false := decide_eq_false (by omega)
              have g3 : (r == 0) = true := by rw [beq_iff_eq]; exact hr0
              clear hc hk0 hr hr0
              go_wp2_with (at_builtin; refine wpList_append_run rfl (.tmp 40) (.tmp 50) 27 rfl (by rfl) (by rfl) happ ?_)
              go_roundw
              case rel => exact ⟨k + 1, n + 1, c2', _, hlt2', by go_num, rfl, hn3, R3⟩
              case measure => have : k < L := hlt2'; simp [intOf]; omega
          · rw [if_neg hc] at hps
            obtain ⟨A, y, eA, y1, y2, y3, y4⟩ := partK_last pages x.lba x.phys k (by omega)
            rw [eA, grow_snoc] at hps
            rw [eA, ← List.append_assoc] at R hn
            obtain ⟨g2, rfl, f5, f6, f7⟩ := R.rs.at (i := (B ++ A).length) (x := y) (by simp)
            have hfz := R.own.frozenAt ((B ++ A).length * 3 + 1)
            have R3 := R.setLen (y.len + 1)
            have hrc := R.rs.1
            obtain ⟨q, hq⟩ : ∃ q, q = (B ++ A).length := ⟨_, rfl⟩
            have hnq : n = q + 1 := by rw [show n = _ from hn, List.length_append, ← hq]; rfl
            rw [← show n = _ from hn] at hrc
            rw [← hq] at f6 hfz R3
            rw [List.append_assoc, ← hps] at R3
            have hn3 : Hid (n = (B ++ partK pages x.lba x.phys (k + 1)).length) := by show _ = _; rw [hps, ← List.append_assoc, List.length_append, ← hq, hnq]; rfl
            have dn : IntKind.i64.wrap ((n : Int) - 1) = (q : Int) := by rw [wrapI (by omega) (by omega)]; omega
            have dn2 : (q : Int) < (n : Int) := by omega
            have hqn : q < n := by omega
            have dy := wrapI (x := y.len + 1) (by omega) (by omega)
            have g1 : ((k : Int) == 0) = false := by rw [beq_eq_false_iff_ne]; omega
            have g2' : decide ((k : Int) = 0) = false := decide_eq_false (by omega)
            have g3 : (r == 0) = false := by rw [beq_eq_false_iff_ne]; omega
            clear hlt2 R hps hm0 hpl hn f5 f7 hc hr hq hnq eA y1 y2 y3 y4
            go_wp2_with fail
            go_roundw
            case rel => exact ⟨k + 1, n, c', _, hlt2', by go_num, rfl, hn3, R3⟩
            case measure => have : k < L := hlt2'; simp [intOf]; omega
        · have dk : ¬ (k : Int) < (L : Int) := by omega
          obtain rfl : k = L := by omega
          rw [show B ++ partK pages x.lba x.phys k = _ from hend] at R hn
          clear hlt2
          go_wp2_with fail
          go_roundw
          case rel => exact ⟨i + 1, n, c', a', hlt', by go_num, rfl, hn, R⟩
          case measure => have : i < m := hlt'; simp [intOf]; omega
    · have di : ¬ (i : Int) < (m : Int) := by omega
      rw [List.take_of_length_le (by rw [← show m = l.length from hm']; omega)] at R1 hn
      clear hlt
      go_wp2_with fail
      go_ret
      exact ⟨a', c', by rw [← show n = _ from hn]; rfl, R1⟩
theorem size35 : (Try.prog.info? 35).map (·.size) = some 3 := by kernel_rfl
theorem under35 : ∃ d, Try.prog.underlying 35 = some d ∧ d.isRow = true := ⟨_, Try.underlying35, rfl⟩
/-- A run as a value. -/
def rnB (x : Rn) : Array Value := #[.int .i64 x.lba, .int .i64 x.len, .int .i64 x.phys]
theorem rn_load {w : World} {b o : Nat} {x : Rn} (c0 : w.cell? ⟨b, o, none⟩ = some (.int .i64 x.lba)) (c1 : w.cell? ⟨b, o + 1, none⟩ = some (.int .i64 x.len)) (c2 : w.cell? ⟨b, o + 2, none⟩ = some (.int .i64 x.phys)) :
    (Instr.loadAt 35 (.pointer (some ⟨b, o, none⟩))).run Try.prog w = .ok (.agg (rnB x)) w := by
  obtain ⟨t, h1, h2⟩ := under35
  have hr : w.rangeAt b o (rnB x).toList := by
    intro j v hv
    have hj : j < 3 := by have := (List.getElem?_eq_some_iff.1 hv).1; simpa [rnB] using this
    rcases three hj with rfl | rfl | rfl
    · have e : v = .int .i64 x.lba := by simpa [rnB] using hv.symm
      rw [e]; exact c0
    · have e : v = .int .i64 x.len := by simpa [rnB] using hv.symm
      rw [e]; exact c1
    · have e : v = .int .i64 x.phys := by simpa [rnB] using hv.symm
      rw [e]; exact c2
  have := run_loadAt_mid (P := Try.prog) w b o 35 (rnB x).toList t hr h1 h2 (by rw [size35]; simp [rnB])
  simpa using this
theorem wpList_loadB {P : Program} {w : World} {ops : Array Oper} {rest : List Oper} {o : Oper} {a : Act} {Q : Exit → Act → World → Prop}
    (hw : Region.wanted o (yielded ops a.tmps) = true) (t : TypeId) (x : Operand) (hop : o.op = Op.load t x) {v1 v' : Value} {w' : World} (hx : a.eval x = v1) (hrun : (Instr.loadAt t v1).run P w = .ok v' w')
    (hK : wpList P ops Q rest (a.put o.dst v') w') : wpList P ops Q (o :: rest) a w := by
  refine BigFrame.wpList_want hw fun K hK' => ?_
  unfold Oper.wp
  simp [execOp, hop, hx, hrun, Result.andThen]
  exact hK' _ _ hK
theorem partK_in {pages lba phys : Int} (h0 : 0 ≤ lba) (h1 : 0 ≤ phys) : ∀ (k : Nat), ∀ y ∈ partK pages lba phys k, 0 ≤ y.lba ∧ 1 ≤ y.len ∧ y.len ≤ (k : Int) ∧ 0 ≤ y.phys ∧ y.phys + y.len ≤ phys + (k : Int) ∧ y.lba + y.len ≤ lba + (k : Int) ∧ lba ≤ y.lba ∧ phys ≤ y.phys
  | 0, y, hy => by simp [partK] at hy
  | k + 1, y, hy => by
    have ih := partK_in h0 h1 (pages := pages) k
    rw [partK_succ] at hy
    split at hy
    · rcases List.mem_append.1 hy with hy | hy
      · have := ih y hy; omega
      · simp at hy
        subst hy
        simp only
        omega
    · next hc =>
      obtain ⟨m, z, e, z1, z2, z3, z4⟩ := partK_last pages lba phys k (by omega)
      rw [e, grow_snoc] at hy
      rcases List.mem_append.1 hy with hy | hy
      · have := ih y (by rw [e]; simp [hy]); omega
      · have hz := ih z (by rw [e]; simp)
        simp at hy
        subst hy
        simp only
        omega
theorem splL_in {pages : Int} {l : List Rn} (hF : Ft13 l) {y : Rn} (hy : y ∈ splL pages l) : 0 ≤ y.lba ∧ 1 ≤ y.len ∧ y.len ≤ 512 ∧ y.lba + y.len ≤ 512 ∧ 0 ≤ y.phys ∧ y.phys ≤ 1073742336 := by
  unfold splL at hy
  obtain ⟨x, hx, hy⟩ := List.mem_flatMap.1 hy
  have hb := hF.bd hx
  unfold parts at hy
  have := partK_in hb.1 hb.2.2.2.1 _ y hy
  omega
theorem movL_len {pages b : Int} {l : List Rn} : (movL pages b l).length ≤ (splL pages l).length := List.length_filter_le _ _
set_option maxRecDepth 100000 in
set_option maxHeartbeats 1000000 in
theorem rmoves {w : World} {a : Option Addr} {cap : Nat} {l : List Rn} (hR : Rz w a cap l) (hF : Ft13 l) {pages b : Int} (hp : 1 ≤ pages ∧ pages ≤ 32) :
    Calls Try.prog 28 #[.slice a l.length cap, .int .i64 b, .int .i64 pages] w fun e w' => ∃ a' c', e = .returned (.slice a' (movL pages b l).length c') ∧ Rr w w' a' c' (movL pages b l) := by
  have hsl : (splL pages l).length ≤ 512 := splL_512 hF
  have hbd : Hid (∀ y ∈ splL pages l, 0 ≤ y.phys ∧ y.phys ≤ 1073742336) := fun y hy => ⟨(splL_in hF hy).2.2.2.2.1, (splL_in hF hy).2.2.2.2.2⟩
  have hsp0 := fun {w'} (k : Keep (fun _ => False) w w') => rsplit (hR.more k) hF hp
  unfold movL
  obtain ⟨S, hS⟩ : ∃ S, S = splL pages l := ⟨_, rfl⟩
  rw [← hS] at hsl hbd ⊢
  simp only [← hS] at hsp0
  clear hS
  obtain ⟨hmk, R0⟩ := rr_made w
  have hsp := hsp0 R0.keep
  have R0 : Rr w (w.alloc (.cells (madeCells #[.int .i64 0, .int .i64 0, .int .i64 0] (0 * 3)) 35)) (some ⟨w.heap.size, 0, none⟩) 0 [] := R0
  generalize w.alloc (.cells (madeCells #[.int .i64 0, .int .i64 0, .int .i64 0] (0 * 3)) 35) = w1 at hmk R0 hsp
  generalize hG : w.heap.size = gv at hmk R0
  have hp0 : ¬ pages = 0 := by omega
  obtain ⟨m, hm⟩ : ∃ m, m = l.length := ⟨_, rfl⟩
  rw [← hm] at hsp ⊢
  obtain ⟨n, hn⟩ : ∃ n, n = S.length := ⟨_, rfl⟩
  rw [← hn] at hsl
  simp only [← hn] at hsp
  have hn' : Hid (n = S.length) := hn
  clear hm hn hsp0
  go_enter Try.func28, Try.ntmps28
  go_wp2_with fail
  refine hsp.mono ?_
  rintro e w2 ⟨a2, c2, rfl, R2⟩
  have R0' := R0.more R2.keep
  have Z2 := R2.rs.rz
  have hc2 := Z2.1
  rw [← show n = S.length from hn'] at hc2
  have hc3 := Z2.2.1
  have Kz := R0.keep
  have hgv := (R0.block rfl).2
  have hblk : ∀ ad : Addr, a2 = some ad → w1.heap.size ≤ ad.block ∧ ad.block < w2.heap.size := fun ad e => by
    rcases R2.own.2 with ⟨e', -⟩ | ⟨g, c, cur, e', -⟩
    · injection e' with e'; rw [e] at e'; cases e'
    · injection e' with e'
      rw [e] at e'
      injection e' with e'
      subst e'
      exact R2.block e
  have hst1 : Hid (∀ g, some (⟨gv, 0, none⟩ : Addr) = some ⟨g, 0, none⟩ → ∀ ad : Addr, a2 = some ad → ad.block ≠ g) := fun g e ad e2 => by
    injection e with e
    injection e with e
    have := (hblk ad e2).1
    omega
  have hst2 : Hid (∀ ad : Addr, a2 = some ad → ad.block < w2.heap.size) := fun ad e => (hblk ad e).2
  clear hmk hsp R0 hR hblk
  go_wp2_with fail
  go_loopw [7, 9] (fun rv v wx => ∃ (i k c' : Nat) (a' : Option Addr), i ≤ n ∧ v = .int .i64 (i : Int) ∧ rv = .slice a' k c' ∧ Hid (k = ((S.take i).filter (fun x => decide (x.phys / pages = b))).length) ∧ k ≤ i ∧ Rr w wx a' c' ((S.take i).filter (fun x => decide (x.phys / pages = b))) ∧ Rz wx a2 c2 S ∧ Hid (∀ g, a' = some ⟨g, 0, none⟩ → ∀ ad : Addr, a2 = some ad → ad.block ≠ g) ∧ Hid (∀ ad : Addr, a2 = some ad → ad.block < wx.heap.size)) (fun _ v _ => n - (intOf v).toNat)
  case atStart => exact ⟨0, 0, 0, _, by omega, rfl, rfl, rfl, by omega, R0', Z2, hst1, hst2⟩
  case round =>
    clear R0' Z2 hst1 hst2 hgv
    obtain ⟨i, k, c', a', hi, rfl, rfl, hk, hki, R, Z, hne, hb2⟩ := hrel
    by_cases hlt : i < n
    · obtain ⟨x, hx⟩ := get_rn (m := S) (i := i) (by rw [← show n = S.length from hn']; exact hlt)
      have hxb := (show ∀ y ∈ S, 0 ≤ y.phys ∧ y.phys ≤ 1073742336 from hbd) x (List.mem_of_getElem? hx)
      obtain ⟨g, o, ea, x0, x1, x2⟩ := Z.at hx
      have hld := rn_load x0 x1 x2
      have hnx : S.take (i + 1) = S.take i ++ [x] := take_next hx
      have di : (i : Int) < (n : Int) := by omega
      have dw := wrapI (x := (i : Int) + 1) (by omega) (by omega)
      have hlt' : Hid (i < n) := hlt
      have hki' : Hid (k ≤ i + 1) := by show _ ≤ _; omega
      have hki2 : Hid (k + 1 ≤ i + 1) := by show _ ≤ _; omega
      obtain ⟨q, hq⟩ : ∃ q, q = x.phys / pages := ⟨_, rfl⟩
      have hq0 : 0 ≤ q := by rw [hq]; exact Int.ediv_nonneg (by omega) (by omega)
      have hq1 : q ≤ x.phys := by rw [hq]; exact Int.ediv_le_self _ (by omega)
      have f1 : x.phys.tdiv pages = q := by rw [Int.tdiv_eq_ediv_of_nonneg (by omega)]; exact hq.symm
      have f2 : IntKind.i64.wrap q = q := wrapI (by omega) (by omega)
      clear hlt hx x0 x1
      by_cases hc : q = b
      · have hfl : (S.take (i + 1)).filter (fun x => decide (x.phys / pages = b)) = (S.take i).filter (fun x => decide (x.phys / pages = b)) ++ [x] := by rw [hnx, List.filter_append]; congr 1; rw [List.filter_cons, ← hq, if_pos (decide_eq_true hc)]; rfl
        obtain ⟨a5, c5, w5, happ, R5, K5, h5⟩ := R.appS (by rw [← show k = _ from hk]; omega) x
        rw [← show k = _ from hk] at happ
        rw [← hfl] at R5
        have hk5 : Hid (k + 1 = ((S.take (i + 1)).filter (fun x => decide (x.phys / pages = b))).length) := by show _ = _; rw [hfl, List.length_append, ← show k = _ from hk]; rfl
        have Z5 : Rz w5 a2 c2 S := Z.keep K5 (fun g' o' e' _ e2 => (show ∀ g, a' = some ⟨g, 0, none⟩ → ∀ ad : Addr, a2 = some ad → ad.block ≠ g from hne) g' e2 _ e' rfl)
        have hb5 : Hid (∀ ad : Addr, a2 = some ad → ad.block < w5.heap.size) := fun ad e => Nat.lt_of_lt_of_le ((show ∀ ad : Addr, a2 = some ad → ad.block < wr.heap.size from hb2) ad e) K5.size
        have hne5 : Hid (∀ g, a5 = some ⟨g, 0, none⟩ → ∀ ad : Addr, a2 = some ad → ad.block ≠ g) := fun g e ad e2 => by
          rcases h5 with rfl | ⟨g5, rfl, hg5⟩
          · exact (show ∀ g, a5 = some ⟨g, 0, none⟩ → ∀ ad : Addr, a2 = some ad → ad.block ≠ g from hne) g e ad e2
          · injection e with e
            injection e with e
            have := (show ∀ ad : Addr, a2 = some ad → ad.block < wr.heap.size from hb2) ad e2
            omega
        have g1 : (q == b) = true := by rw [beq_iff_eq]; exact hc
        have g2 : decide (q = b) = true := decide_eq_true hc
        subst ea
        clear hfl hnx R Z hne hb2 K5 h5 hk hq hc hbd
        unfold rnB at hld
        go_wp2_with (first | (guard_target =~ wpList _ _ _ (Oper.mk _ (Op.load 35 _) _ _ _ _ :: _) _ _; refine wpList_loadB (by rfl) 35 (.tmp 32) rfl (by rfl) hld ?_) | (at_builtin; refine wpList_append_run rfl (.tmp 29) (.tmp 34) 27 rfl (by rfl) (by rfl) happ ?_))
        go_roundw
        case rel => exact ⟨i + 1, k + 1, c5, a5, hlt', by go_num, rfl, hk5, hki2, R5, Z5, hne5, hb5⟩
        case measure => have : i < n := hlt'; simp [intOf]; omega
      · have hfl : (S.take (i + 1)).filter (fun x => decide (x.phys / pages = b)) = (S.take i).filter (fun x => decide (x.phys / pages = b)) := by rw [hnx, List.filter_append, List.filter_cons, ← hq, if_neg (by simp [hc])]; simp
        rw [← hfl] at R hk
        have g1 : (q == b) = false := by rw [beq_eq_false_iff_ne]; exact hc
        have g2 : decide (q = b) = false := decide_eq_false hc
        subst ea
        clear hfl hnx hq hc
        go_wp2_with fail
        go_roundw
        case rel => exact ⟨i + 1, k, c', a', hlt', by go_num, rfl, hk, hki', R, Z, hne, hb2⟩
        case measure => have : i < n := hlt'; simp [intOf]; omega
    · have di : ¬ (i : Int) < (n : Int) := by omega
      rw [List.take_of_length_le (by rw [← show n = S.length from hn']; omega)] at R hk
      clear hlt
      go_wp2_with fail
      go_ret
      exact ⟨a', c', by rw [← show k = _ from hk]; rfl, R⟩
end Tg
end Go.Proofs.Ytkddonmddgfpnab
