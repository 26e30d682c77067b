/-
  The program's own Changes, walked.
-/
import Derived.Test.YtlekapfhbceibaaPf
namespace Go.Proofs.Ytlekapfhbceibaa
open Go.ChangeShapes Go.WideShapes Go.ChangeAt Go.RowKit
namespace Tg
open Vi
theorem Rdr.new {w : World} {a : Option Addr} {len cap : Nat} {b : List Int} (hr : Row w a len cap b) : Rdr w (w.alloc (.cells #[.slice a len cap, .bool false] 71)) w.heap.size false b := by
  have K := (Keep.refl (fun _ => False) w).alloc (.cells #[.slice a len cap, .bool false] 71)
  refine ⟨a, len, cap, blk_alloc w #[.slice a len cap, .bool false] 71 2 _ (by intro k hk; rcases (by omega : k = 0 ∨ k = 1) with rfl | rfl <;> rfl), hr.keep K (fun _ _ _ e => e), ?_, Nat.le_refl _⟩
  by_cases h0 : len = 0
  · exact Or.inl h0
  · right
    obtain ⟨b', o', rfl, hc⟩ := hr.2.2.2.2.resolve_left h0
    intro x e
    injection e with e
    subst e
    exact World.block_lt_of_cell? w _ (hc 0 (by omega))
theorem step_store_run {P : Program} {ops : Array Oper} {o : Oper} {a : Act} {w : World} {K : Act → World → Prop} {Q : Exit → Act → World → Prop} {E : Prop}
    (hw : Region.wanted o (yielded ops a.tmps) = true) (t : TypeId) (x y : Operand) (hop : o.op = Op.store t x y) {v1 v2 : Value} {w' : World} (hx : a.eval x = v1) (hy : a.eval y = v2) (hrun : (Instr.storeAt t v1 v2).run P w = .ok () w')
    (hK : K (a.put o.dst undef) w') : if Region.wanted o (yielded ops a.tmps) = true then Oper.wp P o a w K Q else E := by
  rw [if_pos hw]
  unfold Oper.wp
  simp [execOp, hop, hx, hy, hrun, Result.andThen]
  exact hK
theorem size28 : (Try.prog.info? 28).map (·.size) = some 3 := by kernel_rfl
theorem size45 : (Try.prog.info? 45).map (·.size) = some 3 := by kernel_rfl
theorem Tri.over {w : World} {b : Nat} {x : Rn} (h : Tri w b x) (y : Rn) {ty : TypeId} (hty : (Try.prog.info? ty).map (·.size) = some 3) : ∃ w', (Instr.storeAt ty (.pointer (some ⟨b, 0, none⟩)) (.agg #[.int .i64 y.lba, .int .i64 y.len, .int .i64 y.phys])).run Try.prog w = .ok () w' ∧ Tri w' b y ∧ Keep (fun k => k = b) w w' := by
  have ht : w.there b 0 (#[.int .i64 y.lba, .int .i64 y.len, .int .i64 y.phys] : Array Value).size := fun j hj => ⟨by rw [(h (0 + j) (by simp at hj; omega)).1]; rfl, (h (0 + j) (by simp at hj; omega)).2⟩
  refine ⟨_, run_storeAt_mid w b 0 ty #[.int .i64 y.lba, .int .i64 y.len, .int .i64 y.phys] ht hty (by simp [Value.oneCell']), ?_, (Keep.refl (fun k => k = b) w).setCells (b := b) (Or.inl rfl) _ _⟩
  exact Blk.congr (Blk.setCells h 0 3 (fun k => if k = 0 then .int .i64 y.lba else if k = 1 then .int .i64 y.len else .int .i64 y.phys) (by omega)) (fun i hi => by rw [if_pos (by omega), Nat.sub_zero])
theorem Rst.tri {w wx : World} {br bt bo B : Nat} {s : Bool} {r : List Int} {L P : Int} {a : Option Addr} {c : Nat} {m : List Rn} (h : Rst w wx br bt s r L P a c m) {x : Rn} (T : Tri wx bo x) (hb : br < B ∧ bt < B) (ha : Hid (∀ g, a = some ⟨g, 0, none⟩ → g < B)) (hB : B ≤ bo) (y : Rn) :
    ∃ w', (Instr.storeAt 28 (.pointer (some ⟨bo, 0, none⟩)) (.agg #[.int .i64 y.lba, .int .i64 y.len, .int .i64 y.phys])).run Try.prog wx = .ok () w' ∧ Tri w' bo y ∧ Rst w w' br bt s r L P a c m := by
  obtain ⟨w', h1, h2, h3⟩ := T.over y size28
  have ha' : ∀ g, a = some ⟨g, 0, none⟩ → g < B := ha
  have hn := h.new
  exact ⟨w', h1, h2, h.rdr.keep h3 (by omega) (fun x e => by omega), Blk.keep h.en h3 (by omega), h.row.other h3 (fun g e => by have := ha' g e; omega) (fun x e => by omega), h.ne1, h.ne2, h.new⟩
theorem Rst.hold {w wx w2 : World} {br bt : Nat} {s : Bool} {r : List Int} {L P : Int} {a : Option Addr} {c : Nat} {m : List Rn} (h : Rst w wx br bt s r L P a c m) (k : Keep (fun _ => False) wx w2) : w2.cell? ⟨bt, 0, none⟩ = some (.int .i64 L) ∧ w2.cell? ⟨bt, 1, none⟩ = some (.int .i64 P) :=
  ⟨(h.more k).en.c0, (h.more k).en.c1⟩
theorem Rsr.tri {w wx : World} {br bt bo B : Nat} {s : Bool} {r : List Int} {L P : Int} {a : Option Addr} {c : Nat} {m : List Rn} (h : Rsr w wx br bt s r L P a c m) {x : Rn} (T : Tri wx bo x) (hb : br < B ∧ bt < B) (ha : Hid (∀ g, a = some ⟨g, 0, none⟩ → g < B)) (hB : B ≤ bo) (y : Rn) :
    ∃ w', (Instr.storeAt 45 (.pointer (some ⟨bo, 0, none⟩)) (.agg #[.int .i64 y.lba, .int .i64 y.len, .int .i64 y.phys])).run Try.prog wx = .ok () w' ∧ Tri w' bo y ∧ Rsr w w' br bt s r L P a c m := by
  obtain ⟨w', h1, h2, h3⟩ := T.over y size45
  have ha' : ∀ g, a = some ⟨g, 0, none⟩ → g < B := ha
  have hn := h.new
  exact ⟨w', h1, h2, h.rdr.keep h3 (by omega) (fun x e => by omega), Blk.keep h.en h3 (by omega), h.row.other h3 (fun g e => by have := ha' g e; omega) (fun x e => by omega), h.ne1, h.ne2, h.new⟩
theorem Rsr.hold {w wx w2 : World} {br bt : Nat} {s : Bool} {r : List Int} {L P : Int} {a : Option Addr} {c : Nat} {m : List Rn} (h : Rsr w wx br bt s r L P a c m) (k : Keep (fun _ => False) wx w2) : w2.cell? ⟨bt, 0, none⟩ = some (.int .i64 L) ∧ w2.cell? ⟨bt, 1, none⟩ = some (.int .i64 P) :=
  ⟨(h.more k).en.c0, (h.more k).en.c1⟩
theorem Rst.tri3 {w wx : World} {br bt bo B : Nat} {s : Bool} {r : List Int} {L P : Int} {a : Option Addr} {c : Nat} {m : List Rn} (h : Rst w wx br bt s r L P a c m) {x : Rn} (T : Tri wx bo x) (hb : br < B ∧ bt < B) (ha : Hid (∀ g, a = some ⟨g, 0, none⟩ → g < B)) (hB : B ≤ bo) (x1 x2 x3 : Int) :
    Rst w (((wx.setCell ⟨bo, 0, none⟩ (.int .i64 x1)).setCell ⟨bo, 1, none⟩ (.int .i64 x2)).setCell ⟨bo, 2, none⟩ (.int .i64 x3)) br bt s r L P a c m ∧ Tri (((wx.setCell ⟨bo, 0, none⟩ (.int .i64 x1)).setCell ⟨bo, 1, none⟩ (.int .i64 x2)).setCell ⟨bo, 2, none⟩ (.int .i64 x3)) bo ⟨x1, x2, x3⟩ := by
  have h3 : Keep (fun k => k = bo) wx (((wx.setCell ⟨bo, 0, none⟩ (.int .i64 x1)).setCell ⟨bo, 1, none⟩ (.int .i64 x2)).setCell ⟨bo, 2, none⟩ (.int .i64 x3)) := (((Keep.refl (fun k => k = bo) wx).setCell (Or.inl rfl) _).setCell (Or.inl rfl) _).setCell (Or.inl rfl) _
  have ha' : ∀ g, a = some ⟨g, 0, none⟩ → g < B := ha
  have hn := h.new
  exact ⟨⟨h.rdr.keep h3 (by omega) (fun x e => by omega), Blk.keep h.en h3 (by omega), h.row.other h3 (fun g e => by have := ha' g e; omega) (fun x e => by omega), h.ne1, h.ne2, h.new⟩, ((T.set0 x1).set1 x2).set2 x3⟩
theorem Rsr.tri3 {w wx : World} {br bt bo B : Nat} {s : Bool} {r : List Int} {L P : Int} {a : Option Addr} {c : Nat} {m : List Rn} (h : Rsr w wx br bt s r L P a c m) {x : Rn} (T : Tri wx bo x) (hb : br < B ∧ bt < B) (ha : Hid (∀ g, a = some ⟨g, 0, none⟩ → g < B)) (hB : B ≤ bo) (x1 x2 x3 : Int) :
    Rsr w (((wx.setCell ⟨bo, 0, none⟩ (.int .i64 x1)).setCell ⟨bo, 1, none⟩ (.int .i64 x2)).setCell ⟨bo, 2, none⟩ (.int .i64 x3)) br bt s r L P a c m ∧ Tri (((wx.setCell ⟨bo, 0, none⟩ (.int .i64 x1)).setCell ⟨bo, 1, none⟩ (.int .i64 x2)).setCell ⟨bo, 2, none⟩ (.int .i64 x3)) bo ⟨x1, x2, x3⟩ := by
  have h3 : Keep (fun k => k = bo) wx (((wx.setCell ⟨bo, 0, none⟩ (.int .i64 x1)).setCell ⟨bo, 1, none⟩ (.int .i64 x2)).setCell ⟨bo, 2, none⟩ (.int .i64 x3)) := (((Keep.refl (fun k => k = bo) wx).setCell (Or.inl rfl) _).setCell (Or.inl rfl) _).setCell (Or.inl rfl) _
  have ha' : ∀ g, a = some ⟨g, 0, none⟩ → g < B := ha
  have hn := h.new
  exact ⟨⟨h.rdr.keep h3 (by omega) (fun x e => by omega), Blk.keep h.en h3 (by omega), h.row.other h3 (fun g e => by have := ha' g e; omega) (fun x e => by omega), h.ne1, h.ne2, h.new⟩, ((T.set0 x1).set1 x2).set2 x3⟩
theorem page_keep {lb ph : Int} (d : Int) (w : World) :
    Calls Try.prog 45 #[.agg #[.int .i64 lb, .int .i64 ph], .int .i64 d] w fun e w' => e = .returned (.int .i64 (pgP ph d)) ∧ Keep (fun _ => False) w w' :=
  (page_any d w).mono (fun e w' h => ⟨h.1, by rw [h.2]; exact (Keep.refl _ _).alloc _⟩)
set_option maxHeartbeats 1000000 in
/-- readOps. -/
theorem readops_any {w : World} {a : Option Addr} {len cap : Nat} {b : List Int} (hr : Row w a len cap b) :
    Calls Try.prog 27 #[.slice a len cap] w fun e w' => ∃ (a' : Option Addr) (c' : Nat) (m : List Rn) (ok : Bool), e = .returned (.tuple #[.slice a' m.length c', .bool ok]) ∧ Rp w w' a' c' m ∧ Fits m ∧ Hid (∀ l, MayL l → recL l = b → ok = true ∧ m = l) := by
  have R1 := Rdr.new hr
  have E1 := End.new (w.alloc (.cells #[.slice a len cap, .bool false] 71)) 0 0
  have hsz : (w.alloc (.cells #[.slice a len cap, .bool false] 71)).heap.size = w.heap.size + 1 := by simp
  rw [hsz] at E1
  have R2 := R1.keep ((Keep.refl (fun _ => False) _).alloc (.cells #[.int .i64 0, .int .i64 0] 51)) (fun e => e) (fun _ e => e.elim)
  have S0 : Rst w _ w.heap.size (w.heap.size + 1) false b 0 0 none 0 [] := ⟨R2, E1, (Rp.nil w).more (((Keep.refl (fun _ => False) w).alloc _).alloc _), fun g e => absurd e (by simp), by omega, by omega⟩
  clear R1 R2 E1 hsz
  generalize hbr : w.heap.size = br at S0
  generalize hbt : br + 1 = bt at S0
  go_enter Try.func27, Try.ntmps27
  go_wp2_with fail
  generalize (w.alloc (.cells #[.slice a len cap, .bool false] 71)).alloc (.cells #[.int .i64 0, .int .i64 0] 51) = w1 at S0
  refine (count_any S0.rdr).mono ?_
  rintro e w2 ⟨k, s, rfl, hk5, R2, K2, hsk, hinv⟩
  have S2 := S0.read R2 K2
  have hI0 : Hid (Inv b k 0 [] (b.drop (gN b)) 0 0) := fun l hl e => by
    obtain ⟨h1, h2, h3⟩ := (show ∀ (n : Int) (r : List Int), _ from hinv) (l.length : Int) (recB 0 0 l) (by omega) (by have := hl.1; omega) e.symm
    exact ⟨by omega, rfl, h3, by omega, by omega⟩
  have hS0 : Hid (∀ l, MayL l → recL l = b → s = false) := fun l hl e => ((show ∀ (n : Int) (r : List Int), _ from hinv) (l.length : Int) (recB 0 0 l) (by omega) (by have := hl.1; omega) e.symm).1
  have hsk' : Hid (s = true → k = 0) := hsk
  clear hinv R2 K2 S0 hsk
  generalize b.drop (gN b) = r0 at S2 hI0
  go_wp2_with fail
  go_loopw [5, 13] (fun rv v wx => ∃ (i c : Nat) (a' : Option Addr) (m : List Rn) (r : List Int) (L P : Int), i ≤ k ∧ v = .int .i64 (i : Int) ∧ rv = .slice a' i c ∧ Rst w wx br bt s r L P a' c m ∧ Hid (m.length = i) ∧ Hid (Inv b k i m r L P) ∧ Hid (Fits m)) (fun _ v _ => k - (intOf v).toNat)
  case atStart => exact ⟨0, 0, none, [], r0, 0, 0, by omega, rfl, rfl, S2, rfl, hI0, fun x hx => by cases hx⟩
  case round =>
    clear S2 hI0
    obtain ⟨i, c, a', m, r, L, P, hi, rfl, rfl, S, hml, hI, hF⟩ := hrel
    by_cases hlt : i < k
    · obtain rfl : s = false := by
        cases s with
        | false => rfl
        | true => have := (show true = true → k = 0 from hsk') rfl; omega
      obtain ⟨hI2, hok⟩ := (show Inv b k i m r L P from hI).step hlt
      have hI3 : Hid (Inv b k (i + 1) (m ++ [rdX L P r]) (rdR r) (nxL (rdX L P r)) (nxP P (rdX L P r))) := hI2
      have hok' : Hid (∀ l, MayL l → recL l = b → rdO r = true) := hok
      have di : (i : Int) < (k : Int) := by omega
      have dw := wrapI (x := (i : Int) + 1) (by omega) (by omega)
      have hlt' : Hid (i < k) := hlt
      have Sd := S.more (Keep.refl (fun _ => False) wr).drew
      have q0 := S.en.c0
      clear hI hI2 hok hlt
      go_wp2_with fail
      go_region_held3 (fun w' => w'.cell? ⟨bt, 0, none⟩ = some (.int .i64 L)) (first | exact q0 | exact Rst.en (by assumption) |>.c0 | go_keep) ((go_at_call 43; refine (sig_any Sd.rdr).mono ?_; rintro e w4 ⟨rfl, R4, K4⟩; have S4 := Sd.read R4 K4; have q4 := S4.en.c0))
      have hX : Hid (rdX L P r = ⟨IntKind.i64.wrap (L + gi r), nuI (r.drop (gN r)), pgP P (gi ((r.drop (gN r)).drop (gN (r.drop (gN r)))))⟩) := rfl
      have hO : Hid (((false || !(vg 0 0 r).isSome) || !(vg 0 0 (r.drop (gN r))).isSome || !(vg 0 0 ((r.drop (gN r)).drop (gN (r.drop (gN r))))).isSome) = !rdO r) := by
        show _ = _
        unfold rdO
        cases (vg 0 0 r).isSome <;> cases (vg 0 0 (r.drop (gN r))).isSome <;> rfl
      have hRr : Hid (((r.drop (gN r)).drop (gN (r.drop (gN r)))).drop (gN ((r.drop (gN r)).drop (gN (r.drop (gN r))))) = rdR r) := rfl
      clear R4 K4 Sd S q0 q4
      generalize IntKind.i64.wrap (L + gi r) = X1 at hX ⊢
      generalize (false || !(vg 0 0 r).isSome) = s4 at S4 hO
      generalize r.drop (gN r) = r4 at S4 hO hX hRr
      go_wp2_with fail
      refine (num_any S4.rdr).mono ?_
      rintro e w5 ⟨rfl, R5, K5⟩
      have S5 := S4.read R5 K5
      clear R5 K5 S4
      generalize nuI r4 = X2 at hX ⊢
      generalize (s4 || !(vg 0 0 r4).isSome) = s5 at S5 hO
      generalize r4.drop (gN r4) = r5 at S5 hO hX hRr
      have q0 := S5.en.c0
      have q1 := S5.en.c1
      have Sd := S5.more (Keep.refl (fun _ => False) w5).drew
      have Ka := (Keep.refl (fun _ => False) w5).drew.alloc (.cells #[.int .i64 0, .int .i64 0, .int .i64 0] 28)
      have Sa := S5.more Ka
      have Ta : Tri (w5.drew.alloc (.cells #[.int .i64 0, .int .i64 0, .int .i64 0] 28)) w5.heap.size ⟨0, 0, 0⟩ := Tri.new w5.drew ⟨0, 0, 0⟩
      have nb : br < w5.heap.size ∧ bt < w5.heap.size := ⟨S5.rdr.lt, S5.en.lt⟩
      have na : Hid (∀ g, a' = some ⟨g, 0, none⟩ → g < w5.heap.size) := fun g e => (S5.row.block e).2
      generalize hD : gi r5 = D at hX
      generalize hr6 : r5.drop (gN r5) = r6 at hRr
      generalize hs6 : (s5 || !(vg 0 0 r5).isSome) = s6 at hO
      have hsig : ∀ wz, Rdr w wz br s5 r5 → Calls Try.prog 43 #[.pointer (some ⟨br, 0, none⟩)] wz fun e w' => e = .returned (.int .i64 D) ∧ Rdr w w' br s6 r6 ∧ Keep (fun b => b = br) wz w' := fun wz R => by
        have := sig_any R
        rw [hD, hr6, hs6] at this
        exact this
      clear hD hr6 hs6 S5
      go_upto_region 8 with fail
      go_cut [9, 13] from 13 to 35 (fun v iv wx => ∃ (bo : Nat), v = .pointer (some ⟨bo, 0, none⟩) ∧ iv = .int .i64 (i : Int) ∧ Rst w wx br bt s6 r6 L P a' c m ∧ Tri wx bo ⟨X1, X2, pgP P D⟩ ∧ Hid (∀ g, a' = some ⟨g, 0, none⟩ → g ≠ bo))
      case first =>
        go_region_held3 (fun w' => w'.cell? ⟨bt, 0, none⟩ = some (.int .i64 L) ∧ w'.cell? ⟨bt, 1, none⟩ = some (.int .i64 P)) (first | exact ⟨q0, q1⟩ | exact Sd.hold (Keep.refl _ _) | exact Sa.hold (Keep.refl _ _) | exact Rst.hold Z.1 (Keep.refl _ _) | exact Rst.hold S7 (Keep.refl _ _) | exact Rst.hold S7 ((Keep.refl _ _).alloc _) | exact Rst.hold S6 (Keep.refl _ _) | exact Rst.hold S6 ((Keep.refl _ _).alloc _)) ((first | (go_at_call 43; refine (hsig _ Sd.rdr).mono ?_; rintro e w6 ⟨rfl, R6, K6⟩; have S6 := Sd.read R6 K6) | (go_at_call 43; refine (hsig _ Sa.rdr).mono ?_; rintro e w6 ⟨rfl, R6, K6⟩; have S6 := Sa.read R6 K6; have T6 : Tri w6 w5.heap.size ⟨0, 0, 0⟩ := Blk.keep Ta K6 (fun e => by omega)) | (go_at_call 45; refine (page_keep _ _).mono ?_; rintro e w7 ⟨rfl, K7⟩; first | (have S7 := S6.more K7; first | (have T7 : Tri w7 w5.heap.size ⟨0, 0, 0⟩ := Blk.keep T6 K7 (fun e => e); have c70 := T7.c0; have c71 := T7.c1; have c72 := T7.c2; have f70 := (T7 0 (by omega)).2; have f71 := (T7 1 (by omega)).2; have f72 := (T7 2 (by omega)).2; have Z := S7.tri3 T7 nb na (Nat.le_refl _) X1 X2 (pgP P D)) | skip) | (have S7 := (S6.more ((Keep.refl _ w6).alloc _)).more K7; have T7 : Tri w7 w6.heap.size ⟨0, 0, 0⟩ := Blk.keep (Tri.new w6 ⟨0, 0, 0⟩) K7 (fun e => e); have c70 := T7.c0; have c71 := T7.c1; have c72 := T7.c2; have f70 := (T7 0 (by omega)).2; have f71 := (T7 1 (by omega)).2; have f72 := (T7 2 (by omega)).2; have Z := S7.tri3 T7 nb na K6.size X1 X2 (pgP P D)))))
        all_goals (have hna : ∀ g, a' = some ⟨g, 0, none⟩ → g < w5.heap.size := na; have k6s : w5.heap.size ≤ w6.heap.size := (by first | exact K6.size | exact Nat.le_trans Ka.size K6.size); go_wp2_with fail; go_meet; first | exact ⟨_, rfl, rfl, Z.1, Z.2, fun g e => by have := hna g e; omega⟩ | exact ⟨_, rfl, rfl, S7.more ((Keep.refl _ w7).alloc _), Tri.new w7 ⟨X1, X2, pgP P D⟩, fun g e => by have := hna g e; have := K7.size; omega⟩)
      case rest =>
        obtain ⟨bo, rfl, rfl, S8, T8, nbo⟩ := hcut
        clear hsig Sd Sa Ta Ka q0 q1 nb na
        obtain ⟨x, hx⟩ : ∃ x : Rn, x = ⟨X1, X2, pgP P D⟩ := ⟨_, rfl⟩
        have hXx : Hid (rdX L P r = x) := by rw [hx]; exact hX
        have hFx := rdX_fits L P r
        rw [show rdX L P r = x from hXx] at hFx
        rw [show rdX L P r = x from hXx, ← show r6 = rdR r from hRr] at hI3
        rw [← hx] at T8
        clear hX hXx hRr hx
        have hml' : m.length = i := hml
        have hFm : Fits m := hF
        have q1 := S8.rdr.c1
        cases s6 with
        | true =>
          have hno : Hid (∀ l, MayL l → recL l = b → false = true ∧ m = l) := fun l hl e => by
            have h1 := (show ∀ l, MayL l → recL l = b → rdO r = true from hok') l hl e
            have h2 := (show true = !rdO r from hO)
            rw [h1] at h2
            cases h2
          clear hI3 hok' hO T8 nbo hFx hS0 hml
          go_wp2_with fail
          go_quiet (fail)
          go_wp2_with fail
          go_ret2
          exact ⟨a', c, m, false, by rw [hml']; rfl, S8.row.more ((Keep.refl _ _).drewN _), hFm, hno⟩
        | false =>
          have hF2 : Hid (Fits (m ++ [x])) := hFm.snoc hFx
          have t0 := T8.c0
          have t1 := T8.c1
          have t2 := T8.c2
          obtain ⟨a9, c9, w9, hrun, S9, T9⟩ := S8.app (by omega) T8 nbo
          rw [hml'] at hrun
          have hl9 : Hid ((m ++ [x]).length = i + 1) := by show _ = _; rw [List.length_append, hml']; rfl
          have hcall := behind_any (lb := L) (ph := P) x w9
          have t90 := T9.c0
          have t91 := T9.c1
          have t92 := T9.c2
          have e90 := S9.en.c0
          have e91 := S9.en.c1
          clear hok' hO T8 nbo hFx hml hml' hFm S8 T9 hF
          go_wp2_with (at_builtin; refine wpList_append_run rfl (.tmp 28) (.tmp 30) 29 rfl (by rfl) (by rfl) hrun ?_)
          refine hcall.mono ?_
          rintro e w10 ⟨rfl, k10⟩
          obtain ⟨w11, hst, S11⟩ := (S9.more k10).over (nxL x) (nxP P x)
          clear hcall hrun t90 t91 t92 e90 e91 S9 k10 t0 t1 t2 q1
          generalize nxL x = L2 at hst S11 hI3
          generalize nxP P x = P2 at hst S11 hI3
          go_wp2_with (guard_target =~ wpList _ _ _ (Oper.mk _ (Op.store 51 _ _) _ _ _ _ :: _) _ _; refine wpList_store_run rfl 51 (.tmp 6) (.tmp 34) rfl (by rfl) (by rfl) hst ?_)
          go_roundw
          case rel => exact ⟨i + 1, c9, a9, m ++ [x], r6, L2, P2, hlt', by go_num, rfl, S11, hl9, hI3, hF2⟩
          case measure => have : i < k := hlt'; simp [intOf]; omega
    · obtain rfl : i = k := by omega
      have hml' : m.length = i := hml
      have hFm : Fits m := hF
      have q1 := S.rdr.c1
      have hfin : Hid (∀ l, MayL l → recL l = b → (!s) = true ∧ m = l) := fun l hl e => by
        obtain ⟨h1, h2, -⟩ := (show Inv b i i m r L P from hI) l hl e
        refine ⟨by rw [(show ∀ l, MayL l → recL l = b → s = false from hS0) l hl e]; rfl, ?_⟩
        rw [h2, List.take_of_length_le (by omega)]
      clear hI hS0 hml hF hlt hsk'
      cases s with
      | true =>
        go_wp2_with fail
        go_quiet (fail)
        go_wp2_with fail
        go_ret2
        exact ⟨a', c, m, false, by rw [hml']; rfl, S.row.more ((Keep.refl _ _).drewN _), hFm, hfin⟩
      | false =>
        go_wp2_with fail
        go_quiet (fail)
        go_wp2_with fail
        go_ret2
        exact ⟨a', c, m, true, by rw [hml']; rfl, S.row.more ((Keep.refl _ _).drewN _), hFm, hfin⟩
end Tg
end Go.Proofs.Ytlekapfhbceibaa
