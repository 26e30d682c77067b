/-
  The program's own readRuns, walked.
-/
import Derived.Test.YtlekapfhbceibaaPh
namespace Go.Proofs.Ytlekapfhbceibaa
open Go.ChangeShapes Go.WideShapes Go.ChangeAt Go.RowKit
namespace Tg
open Vi
theorem tri45 (w : World) (x : Rn) : Tri (w.alloc (.cells #[.int .i64 x.lba, .int .i64 x.len, .int .i64 x.phys] 45)) w.heap.size x :=
  blk_alloc w #[.int .i64 x.lba, .int .i64 x.len, .int .i64 x.phys] 45 3 _ (by intro k hk; rcases (by omega : k = 0 ∨ k = 1 ∨ k = 2) with rfl | rfl | rfl <;> rfl)
/-- The run that is read next. -/
def rxS (L P : Int) (r : List Int) : Rn := ⟨IntKind.i64.wrap (L + nuI r), IntKind.i64.wrap (nuI (r.drop (gN r)) + 1), IntKind.i64.wrap (P + gi ((r.drop (gN r)).drop (gN (r.drop (gN r)))))⟩
theorem rxS_fits (L P : Int) (r : List Int) : (-9223372036854775808 ≤ (rxS L P r).lba ∧ (rxS L P r).lba ≤ 9223372036854775807) ∧ (-9223372036854775808 ≤ (rxS L P r).len ∧ (rxS L P r).len ≤ 9223372036854775807) ∧ (-9223372036854775808 ≤ (rxS L P r).phys ∧ (rxS L P r).phys ≤ 9223372036854775807) :=
  ⟨wrap_rng _, wrap_rng _, wrap_rng _⟩
/-- In the midst of the reading: whatever snapshot it is, it has been read so far. -/
def InvS (b : List Int) (k i : Nat) (m : List Rn) (r : List Int) (L P : Int) : Prop := ∀ l, FitL l → snL l = b → l.length = k ∧ m = l.take i ∧ r = snB L P (l.drop i) ∧ Sv L P (l.drop i)
theorem InvS.step {b : List Int} {k i : Nat} {m : List Rn} {r : List Int} {L P : Int} (h : InvS b k i m r L P) (hi : i < k) : InvS b k (i + 1) (m ++ [rxS L P r]) (rdR r) (nxL (rxS L P r)) (nxP P (rxS L P r)) ∧ ∀ l, FitL l → snL l = b → rdO r = true := by
  have key : ∀ l, FitL l → snL l = b → ∃ x, l[i]? = some x ∧ rxS L P r = x ∧ rdR r = snB (x.lba + x.len) (x.phys + x.len) (l.drop (i + 1)) ∧ rdO r = true ∧ (1 ≤ x.len ∧ 0 ≤ x.lba ∧ x.lba + x.len ≤ 512 ∧ 0 ≤ x.phys ∧ x.phys ≤ 1048576) ∧ Sv (x.lba + x.len) (x.phys + x.len) (l.drop (i + 1)) := by
    intro l hl e
    obtain ⟨h1, h2, h3, h4⟩ := h l hl e
    obtain ⟨x, hx⟩ := get_rn (show i < l.length by omega)
    rw [drop_at hx] at h4
    obtain ⟨h5, h6⟩ := h4.step
    rw [drop_at hx, snB] at h3
    obtain ⟨a1, a2, a3⟩ := read_num (v := x.lba - L) (r := vb (x.len - 1) ++ (vb (fold (x.phys - P)) ++ snB (x.lba + x.len) (x.phys + x.len) (l.drop (i + 1)))) (by omega) (by omega)
    obtain ⟨b1, b2, b3⟩ := read_num (v := x.len - 1) (r := vb (fold (x.phys - P)) ++ snB (x.lba + x.len) (x.phys + x.len) (l.drop (i + 1))) (by omega) (by omega)
    obtain ⟨c1, c2, c3⟩ := read_int (v := x.phys - P) (r := snB (x.lba + x.len) (x.phys + x.len) (l.drop (i + 1))) (by omega) (by omega)
    rw [← h3] at a1 a2 a3
    refine ⟨x, hx, ?_, ?_, ?_, by omega, h6⟩
    · unfold rxS
      rw [a3, a2, b3, b2, c2, wrapI (by omega) (by omega), wrapI (by omega) (by omega), wrapI (by omega) (by omega)]
      cases x
      simp only [Rn.mk.injEq]
      omega
    · unfold rdR
      rw [a3, b3, c3]
    · unfold rdO
      rw [a3, a1, b3, b1, c1]; rfl
  refine ⟨fun l hl e => ?_, fun l hl e => ?_⟩
  · obtain ⟨x, hx, h1, h2, -, hm, hsv⟩ := key l hl e
    obtain ⟨g1, g2, g3, g4⟩ := h l hl e
    rw [h1]
    have hnl : nxL x = x.lba + x.len := wrapI (by omega) (by omega)
    have hnp : nxP P x = x.phys + x.len := by
      unfold nxP
      rw [if_neg (by omega), wrapI (by omega) (by omega)]
    refine ⟨g1, ?_, by rw [h2, hnl, hnp], by rw [hnl, hnp]; exact hsv⟩
    rw [g2, List.take_add_one, hx]; rfl
  · obtain ⟨x, hx, h1, h2, h3, -⟩ := key l hl e
    exact h3
set_option maxHeartbeats 1000000 in
/-- readRuns. -/
theorem readruns_any {w : World} {a : Option Addr} {len cap : Nat} {b : List Int} (hr : Row w a len cap b) :
    Calls Try.prog 29 #[.slice a len cap] w fun e w' => ∃ (a' : Option Addr) (c' : Nat) (m : List Rn) (ok : Bool), e = .returned (.tuple #[.slice a' m.length c', .bool ok]) ∧ Rr w w' a' c' m ∧ Fits m ∧ Hid (∀ l, FitL l → snL l = b → ok = true ∧ m = l) := by
  have R1 := Rdr.new hr
  have E1 := End.new (w.alloc (.cells #[.slice a len cap, .bool false] 71)) 0 0
  have hsz : (w.alloc (.cells #[.slice a len cap, .bool false] 71)).heap.size = w.heap.size + 1 := by simp
  rw [hsz] at E1
  have R2 := R1.keep ((Keep.refl (fun _ => False) _).alloc (.cells #[.int .i64 0, .int .i64 0] 51)) (fun e => e) (fun _ e => e.elim)
  have S0 : Rsr w _ w.heap.size (w.heap.size + 1) false b 0 0 none 0 [] := ⟨R2, E1, (Rr.nil w).more (((Keep.refl (fun _ => False) w).alloc _).alloc _), fun g e => absurd e (by simp), by omega, by omega⟩
  clear R1 R2 E1 hsz
  generalize hbr : w.heap.size = br at S0
  generalize hbt : br + 1 = bt at S0
  go_enter Try.func29, Try.ntmps29
  go_wp2_with fail
  generalize (w.alloc (.cells #[.slice a len cap, .bool false] 71)).alloc (.cells #[.int .i64 0, .int .i64 0] 51) = w1 at S0
  refine (count_any S0.rdr).mono ?_
  rintro e w2 ⟨k, s, rfl, hk5, R2, K2, hsk, hinv⟩
  have S2 := S0.read R2 K2
  have hI0 : Hid (InvS b k 0 [] (b.drop (gN b)) 0 0) := fun l hl e => by
    obtain ⟨h1, h2, h3⟩ := (show ∀ (n : Int) (r : List Int), _ from hinv) (l.length : Int) (snB 0 0 l) (by omega) (by have := hl.1; omega) e.symm
    exact ⟨by omega, rfl, h3, Sv.start hl⟩
  have hS0 : Hid (∀ l, FitL l → snL l = b → s = false) := fun l hl e => ((show ∀ (n : Int) (r : List Int), _ from hinv) (l.length : Int) (snB 0 0 l) (by omega) (by have := hl.1; omega) e.symm).1
  have hsk' : Hid (s = true → k = 0) := hsk
  clear hinv R2 K2 S0 hsk
  generalize b.drop (gN b) = r0 at S2 hI0
  go_wp2_with fail
  go_loopw [5, 13] (fun rv v wx => ∃ (i c : Nat) (a' : Option Addr) (m : List Rn) (r : List Int) (L P : Int), i ≤ k ∧ v = .int .i64 (i : Int) ∧ rv = .slice a' i c ∧ Rsr w wx br bt s r L P a' c m ∧ Hid (m.length = i) ∧ Hid (InvS b k i m r L P) ∧ Hid (Fits m)) (fun _ v _ => k - (intOf v).toNat)
  case atStart => exact ⟨0, 0, none, [], r0, 0, 0, by omega, rfl, rfl, S2, rfl, hI0, fun x hx => by cases hx⟩
  case round =>
    clear S2 hI0
    obtain ⟨i, c, a', m, r, L, P, hi, rfl, rfl, S, hml, hI, hF⟩ := hrel
    by_cases hlt : i < k
    · obtain rfl : s = false := by
        cases s with
        | false => rfl
        | true => have := (show true = true → k = 0 from hsk') rfl; omega
      obtain ⟨hI2, hok⟩ := (show InvS b k i m r L P from hI).step hlt
      have hI3 : Hid (InvS b k (i + 1) (m ++ [rxS L P r]) (rdR r) (nxL (rxS L P r)) (nxP P (rxS L P r))) := hI2
      have hok' : Hid (∀ l, FitL l → snL l = b → rdO r = true) := hok
      have di : (i : Int) < (k : Int) := by omega
      have dw := wrapI (x := (i : Int) + 1) (by omega) (by omega)
      have hlt' : Hid (i < k) := hlt
      have Sd := S.more (Keep.refl (fun _ => False) wr).drew
      have q0 := S.en.c0
      clear hI hI2 hok hlt
      go_wp2_with fail
      go_region_held3 (fun w' => w'.cell? ⟨bt, 0, none⟩ = some (.int .i64 L)) (first | exact q0 | exact Rsr.en (by assumption) |>.c0 | go_keep) ((go_at_call 44; refine (num_any Sd.rdr).mono ?_; rintro e w4 ⟨rfl, R4, K4⟩; have S4 := Sd.read R4 K4; have q4 := S4.en.c0))
      have hX : Hid (rxS L P r = ⟨IntKind.i64.wrap (L + nuI r), IntKind.i64.wrap (nuI (r.drop (gN r)) + 1), IntKind.i64.wrap (P + gi ((r.drop (gN r)).drop (gN (r.drop (gN r)))))⟩) := rfl
      have hO : Hid (((false || !(vg 0 0 r).isSome) || !(vg 0 0 (r.drop (gN r))).isSome || !(vg 0 0 ((r.drop (gN r)).drop (gN (r.drop (gN r))))).isSome) = !rdO r) := by
        show _ = _
        unfold rdO
        cases (vg 0 0 r).isSome <;> cases (vg 0 0 (r.drop (gN r))).isSome <;> rfl
      have hRr : Hid (((r.drop (gN r)).drop (gN (r.drop (gN r)))).drop (gN ((r.drop (gN r)).drop (gN (r.drop (gN r))))) = rdR r) := rfl
      clear R4 K4 Sd S q0 q4
      generalize IntKind.i64.wrap (L + nuI r) = X1 at hX ⊢
      generalize (false || !(vg 0 0 r).isSome) = s4 at S4 hO
      generalize r.drop (gN r) = r4 at S4 hO hX hRr
      go_wp2_with fail
      refine (num_any S4.rdr).mono ?_
      rintro e w5 ⟨rfl, R5, K5⟩
      have S5 := S4.read R5 K5
      clear R5 K5 S4
      generalize hX2 : IntKind.i64.wrap (nuI r4 + 1) = X2 at hX
      generalize (s4 || !(vg 0 0 r4).isSome) = s5 at S5 hO
      generalize r4.drop (gN r4) = r5 at S5 hO hX hRr
      have q0 := S5.en.c0
      have q1 := S5.en.c1
      have Sd := S5.more (Keep.refl (fun _ => False) w5).drew
      have Ka := (Keep.refl (fun _ => False) w5).drew.alloc (.cells #[.int .i64 0, .int .i64 0, .int .i64 0] 45)
      have Sa := S5.more Ka
      have Ta : Tri (w5.drew.alloc (.cells #[.int .i64 0, .int .i64 0, .int .i64 0] 45)) w5.heap.size ⟨0, 0, 0⟩ := tri45 w5.drew ⟨0, 0, 0⟩
      have nb : br < w5.heap.size ∧ bt < w5.heap.size := ⟨S5.rdr.lt, S5.en.lt⟩
      have na : Hid (∀ g, a' = some ⟨g, 0, none⟩ → g < w5.heap.size) := fun g e => (S5.row.block e).2
      generalize hD : gi r5 = D at hX
      generalize hX3 : IntKind.i64.wrap (P + D) = X3 at hX
      generalize hr6 : r5.drop (gN r5) = r6 at hRr
      generalize hs6 : (s5 || !(vg 0 0 r5).isSome) = s6 at hO
      have hsig : ∀ wz, Rdr w wz br s5 r5 → Calls Try.prog 43 #[.pointer (some ⟨br, 0, none⟩)] wz fun e w' => e = .returned (.int .i64 D) ∧ Rdr w w' br s6 r6 ∧ Keep (fun b => b = br) wz w' := fun wz R => by
        have := sig_any R
        rw [hD, hr6, hs6] at this
        exact this
      clear hD hr6 hs6 S5
      go_upto_region 8 with fail
      go_cut [9, 13] from 13 to 37 (fun v iv wx => ∃ (bo : Nat), v = .pointer (some ⟨bo, 0, none⟩) ∧ iv = .int .i64 (i : Int) ∧ Rsr w wx br bt s6 r6 L P a' c m ∧ Tri wx bo ⟨X1, X2, X3⟩ ∧ Hid (∀ g, a' = some ⟨g, 0, none⟩ → g ≠ bo))
      case first =>
        go_region_held3 (fun w' => w'.cell? ⟨bt, 0, none⟩ = some (.int .i64 L) ∧ w'.cell? ⟨bt, 1, none⟩ = some (.int .i64 P)) (first | exact ⟨q0, q1⟩ | exact Sd.hold (Keep.refl _ _) | exact Sa.hold (Keep.refl _ _) | exact Rsr.hold Z.1 (Keep.refl _ _) | exact Rsr.hold S6 (Keep.refl _ _) | exact Rsr.hold S6 ((Keep.refl _ _).alloc _)) ((first | (go_at_call 43; refine (hsig _ Sd.rdr).mono ?_; rintro e w6 ⟨rfl, R6, K6⟩; have S6 := Sd.read R6 K6) | (go_at_call 43; refine (hsig _ Sa.rdr).mono ?_; rintro e w6 ⟨rfl, R6, K6⟩; have S6 := Sa.read R6 K6; have T6 : Tri w6 w5.heap.size ⟨0, 0, 0⟩ := Blk.keep Ta K6 (fun e => by omega); have c70 := T6.c0; have c71 := T6.c1; have c72 := T6.c2; have f70 := (T6 0 (by omega)).2; have f71 := (T6 1 (by omega)).2; have f72 := (T6 2 (by omega)).2; have Z := S6.tri3 T6 nb na (Nat.le_refl _) X1 X2 X3)))
        all_goals (have hna : ∀ g, a' = some ⟨g, 0, none⟩ → g < w5.heap.size := na; have k6s : w5.heap.size ≤ w6.heap.size := (by first | exact K6.size | exact Nat.le_trans Ka.size K6.size); go_wp2_with fail; go_meet; first | exact ⟨_, rfl, rfl, Z.1, Z.2, fun g e => by have := hna g e; omega⟩ | exact ⟨_, rfl, rfl, S6.more ((Keep.refl _ w6).alloc _), tri45 w6 ⟨X1, X2, X3⟩, fun g e => by have := hna g e; omega⟩)
      case rest =>
        obtain ⟨bo, rfl, rfl, S8, T8, nbo⟩ := hcut
        clear hsig Sd Sa Ta Ka q0 q1 nb na hX2 hX3
        obtain ⟨x, hx⟩ : ∃ x : Rn, x = ⟨X1, X2, X3⟩ := ⟨_, rfl⟩
        have hXx : Hid (rxS L P r = x) := by rw [hx]; exact hX
        have hFx := rxS_fits L P r
        rw [show rxS L P r = x from hXx] at hFx
        rw [show rxS L P r = x from hXx, ← show r6 = rdR r from hRr] at hI3
        rw [← hx] at T8
        clear hX hXx hRr hx
        have hml' : m.length = i := hml
        have hFm : Fits m := hF
        have q1 := S8.rdr.c1
        cases s6 with
        | true =>
          have hno : Hid (∀ l, FitL l → snL l = b → false = true ∧ m = l) := fun l hl e => by
            have h1 := (show ∀ l, FitL l → snL l = b → rdO r = true from hok') l hl e
            have h2 := (show true = !rdO r from hO)
            rw [h1] at h2
            cases h2
          clear hI3 hok' hO T8 nbo hFx hS0 hml
          go_wp2_with fail
          go_quiet (fail)
          go_wp2_with fail
          go_ret2
          exact ⟨a', c, m, false, by rw [hml']; rfl, S8.row.more ((Keep.refl _ _).drewN _), hFm, hno⟩
        | false =>
          have hF2 : Hid (Fits (m ++ [x])) := hFm.snoc hFx
          have t0 := T8.c0
          have t1 := T8.c1
          have t2 := T8.c2
          obtain ⟨a9, c9, w9, hrun, S9, T9⟩ := S8.app (by omega) T8 nbo
          rw [hml'] at hrun
          have hl9 : Hid ((m ++ [x]).length = i + 1) := by show _ = _; rw [List.length_append, hml']; rfl
          have hcall := behind_any (lb := L) (ph := P) x w9
          have t90 := T9.c0
          have t91 := T9.c1
          have t92 := T9.c2
          have e90 := S9.en.c0
          have e91 := S9.en.c1
          clear hok' hO T8 nbo hFx hml hml' hFm S8 T9 hF
          go_wp2_with (at_builtin; refine wpList_append_run rfl (.tmp 30) (.tmp 32) 32 rfl (by rfl) (by rfl) hrun ?_)
          refine hcall.mono ?_
          rintro e w10 ⟨rfl, k10⟩
          obtain ⟨w11, hst, S11⟩ := (S9.more k10).over (nxL x) (nxP P x)
          clear hcall hrun t90 t91 t92 e90 e91 S9 k10 t0 t1 t2 q1
          generalize nxL x = L2 at hst S11 hI3
          generalize nxP P x = P2 at hst S11 hI3
          go_wp2_with (guard_target =~ wpList _ _ _ (Oper.mk _ (Op.store 51 _ _) _ _ _ _ :: _) _ _; refine wpList_store_run rfl 51 (.tmp 6) (.tmp 36) rfl (by rfl) (by rfl) hst ?_)
          go_roundw
          case rel => exact ⟨i + 1, c9, a9, m ++ [x], r6, L2, P2, hlt', by go_num, rfl, S11, hl9, hI3, hF2⟩
          case measure => have : i < k := hlt'; simp [intOf]; omega
    · obtain rfl : i = k := by omega
      have hml' : m.length = i := hml
      have hFm : Fits m := hF
      have q1 := S.rdr.c1
      have hfin : Hid (∀ l, FitL l → snL l = b → (!s) = true ∧ m = l) := fun l hl e => by
        obtain ⟨h1, h2, -⟩ := (show InvS b i i m r L P from hI) l hl e
        refine ⟨by rw [(show ∀ l, FitL l → snL l = b → s = false from hS0) l hl e]; rfl, ?_⟩
        rw [h2, List.take_of_length_le (by omega)]
      clear hI hS0 hml hF hlt hsk'
      cases s with
      | true =>
        go_wp2_with fail
        go_quiet (fail)
        go_wp2_with fail
        go_ret2
        exact ⟨a', c, m, false, by rw [hml']; rfl, S.row.more ((Keep.refl _ _).drewN _), hFm, hfin⟩
      | false =>
        go_wp2_with fail
        go_quiet (fail)
        go_wp2_with fail
        go_ret2
        exact ⟨a', c, m, true, by rw [hml']; rfl, S.row.more ((Keep.refl _ _).drewN _), hFm, hfin⟩
end Tg
end Go.Proofs.Ytlekapfhbceibaa
