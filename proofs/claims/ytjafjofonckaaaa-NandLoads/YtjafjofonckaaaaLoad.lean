/-
  Load: bytes that are an image make a flash that tells it; others make none.
-/
import Derived.Test.YtjafjofonckaaaaLoadB
import Derived.Test.YtjafjofonckaaaaIs
namespace Go.Proofs.Ytjafjofonckaaaa
open Go.ChangeShapes Go.WideShapes Go.ChangeAt Go.RowKit
namespace Nd

/-- What lies in memory tells no more of a flash than this. -/
theorem Mem.tells {w : World} {p c k : Nat} {s t : Fl} (h : Mem w p c k s) (hB : t.B = s.B) (hP : t.P = s.P) (hon : t.on = s.on) (hcut : t.cut = s.cut) (hfail : t.fail = s.fail) (hre : t.reads = s.reads) (hpr : t.progs = s.progs) (her : t.erases = s.erases)
    (hcell : ∀ i, i < s.B * s.P * 68 → t.cell i = s.cell i) (hb : ∀ b, b < s.B → t.bad b = s.bad b ∧ t.torn b = s.torn b ∧ t.next b = s.next b ∧ t.wear b = s.wear b) : Mem w p c k t := by
  refine ⟨h.top.congr (fun i hi => ?_), ?_, ?_, h.pc, h.pk, h.ck⟩
  · have : i = 0 ∨ i = 1 ∨ i = 2 ∨ i = 3 ∨ i = 4 ∨ i = 5 ∨ i = 6 ∨ i = 7 ∨ i = 8 := by omega
    rcases this with rfl | rfl | rfl | rfl | rfl | rfl | rfl | rfl | rfl <;> simp only [topCell] <;> simp [hB, hP, hon, hcut, hfail, hre, hpr, her]
  · rw [hB, hP]
    exact h.cel.congr (fun i hi => by rw [hcell i hi])
  · rw [hB]
    refine h.blk.congr (fun i hi => ?_)
    obtain ⟨e1, e2, e3, e4⟩ := hb (i / 4) (by omega)
    unfold blkCell
    rw [e1, e2, e3, e4]

/-- The first j blocks of an image are taken over. -/
def ldj (B P : Nat) (d : Nat → Int) (j : Nat) : Fl := { Fl.new B P with cell := d, bad := fun b => if b < j then d (B * P * 68 + 2 * b) % 2 == 1 else false, torn := fun b => if b < j then decide (2 ≤ d (B * P * 68 + 2 * b)) else false, next := fun b => if b < j then (d (B * P * 68 + 2 * b + 1)).toNat else 0 }
theorem ldj_ok {B P : Nat} {d : Nat → Int} {j : Nat} (b1 : 1 ≤ B) (b2 : B ≤ 64) (p1 : 1 ≤ P) (p2 : P ≤ 32) (hd : ∀ i, 0 ≤ d i ∧ d i ≤ 255) (h : ∀ b, b < j → Good B P d b) : (ldj B P d j).Ok 0 := by
  refine ⟨b1, b2, p1, p2, hd, fun b => ?_, by simp [ldj, Fl.new], by simp [ldj, Fl.new], Nat.le_refl _, Nat.le_refl _, Nat.le_refl _, fun _ => Nat.le_refl _⟩
  show (if b < j then (d (B * P * 68 + 2 * b + 1)).toNat else 0) ≤ P
  split
  · rename_i hb
    have := (h b hb).next
    omega
  · omega
theorem ldj_next {B P : Nat} {d : Nat → Int} {j nx : Nat} {x : Int} (hx : d (B * P * 68 + 2 * j) = x) (hn : d (B * P * 68 + 2 * j + 1) = nx) : (ldj B P d j).loadB j (x % 2 == 1) (decide (2 ≤ x)) nx = ldj B P d (j + 1) := by
  subst hx
  unfold Fl.loadB ldj
  simp only [Fl.new, Fl.mk.injEq, true_and, and_true]
  refine ⟨?_, ?_, ?_, ?_⟩
  · funext b
    by_cases e : b = j
    · subst e; rw [if_pos rfl, if_pos (by omega)]
    · rw [if_neg e]; by_cases h : b < j
      · rw [if_pos h, if_pos (by omega)]
      · rw [if_neg h, if_neg (by omega)]
  · funext b
    by_cases e : b = j
    · subst e; rw [if_pos rfl, if_pos (by omega)]
    · rw [if_neg e]; by_cases h : b < j
      · rw [if_pos h, if_pos (by omega)]
      · rw [if_neg h, if_neg (by omega)]
  · funext b
    by_cases e : b = j
    · subst e; rw [if_pos rfl, if_pos (by omega), hn]; rfl
    · rw [if_neg e]; by_cases h : b < j
      · rw [if_pos h, if_pos (by omega)]
      · rw [if_neg h, if_neg (by omega)]
  · funext b; split <;> rfl
theorem ldj_fits {B P : Nat} {d : Nat → Int} {j nx : Nat} {x : Int} (hx : d (B * P * 68 + 2 * j) = x) (hn : d (B * P * 68 + 2 * j + 1) = nx) : (ldj B P d j).fits j x nx ↔ Good B P d j := (good_iff rfl rfl rfl hx hn).symm

/-- What Load answers, and leaves. -/
def LoadR (w : World) (B P : Nat) (d : Nat → Int) (e : Ending) (w' : World) : Prop :=
  (∃ p c k, e = .returned (.tuple #[.pointer (some ⟨p, 0, none⟩), .int .i64 0]) ∧ (∀ b, b < B → Good B P d b) ∧ Mem w' p c k (Fl.load B P d) ∧ w.heap.size ≤ p ∧ w.heap.size ≤ c ∧ w.heap.size ≤ k ∧ Keep (fun _ => False) w w') ∨
  (e = .returned (.tuple #[.pointer none, .int .i64 11]) ∧ (¬ ∀ b, b < B → Good B P d b) ∧ Keep (fun _ => False) w w')
theorem load_none {w : World} {P : Int} {a : Option Addr} {n cap : Nat} : Calls Try.prog 28 #[.int .i64 0, .int .i64 P, .slice a n cap] w fun e w' => e = .returned (.tuple #[.pointer none, .int .i64 1]) ∧ w' = w := by
  have hno := new_no (w := w) (B := 0) (P := P) (by omega)
  go_enter Try.func28, Try.ntmps28
  go_wp2_with fail
  refine hno.mono ?_
  rintro e w2 ⟨rfl, rfl⟩
  go_wp2_with fail
  go_ret2
  exact ⟨rfl, rfl⟩
theorem call48' (args : Array Value) (w : World) : (callFunc 48 args).run Try.prog w = .ok (.enter 48 args) w := call48 args w

set_option maxRecDepth 100000 in
set_option maxHeartbeats 4000000 in
theorem load_any {w : World} {B P g cap : Nat} {d : Nat → Int} (b1 : 1 ≤ B) (b2 : B ≤ 8) (p1 : 1 ≤ P) (p2 : P ≤ 8) (hd : ∀ i, 0 ≤ d i ∧ d i ≤ 255) (hr : Row w (some ⟨g, 0, none⟩) (B * P * 68 + 2 * B) cap (tab (B * P * 68 + 2 * B) d)) (hf : Free w g cap) :
    Calls Try.prog 28 #[.int .i64 B, .int .i64 P, .slice (some ⟨g, 0, none⟩) (B * P * 68 + 2 * B) cap] w fun e w' => LoadR w B P d e w' := by
  have hblk := hr.blk hf
  have hgl := hblk.lt (by omega)
  have hnew := new_any (w := w) (B := B) (P := P) b1 (by omega) p1 (by omega)
  have hM64 : B * P ≤ 8 * 8 := Nat.mul_le_mul b2 p2
  obtain ⟨M, hM⟩ : ∃ M, B * P * 68 = M := ⟨_, rfl⟩
  have hMle : M ≤ 4352 := by omega
  have HM : Hid (B * P * 68 = M) := hM
  simp only [hM] at hblk hr ⊢
  clear hr hf
  go_enter Try.func28, Try.ntmps28
  go_wp2_with fail
  refine hnew.mono ?_
  rintro e w1 ⟨p, c, k, rfl, m1, hp, hc, hk, K1⟩
  have hby := bytes_any m1 (show B ≤ 64 by omega) (show P ≤ 32 by omega)
  have hsz : (Fl.new B P).size = M + 2 * B := by unfold Fl.size; show B * P * 68 + 2 * B = _; rw [HM.out]
  rw [hsz] at hby
  clear hnew hsz
  go_wp2_with fail
  refine hby.mono ?_
  rintro e w2 ⟨rfl, m2, K2⟩
  clear hby
  have hblk2 := (hblk.keep K1 (fun e => e)).keep K2 (fun e => e)
  have hcel : Blk w2 c M (fun i => .int .u8 255) := by
    have := m2.cel
    rw [show (Fl.new B P).B * (Fl.new B P).P * 68 = M from HM.out] at this
    exact this
  have hcp := run_copy hcel hblk2 0 0 M (by omega) (by omega) (fun i hi => rfl) M M (M + 2 * B) cap (by simp)
  have t1 : w2.cell? ⟨p, 1, none⟩ = some (.slice (some ⟨c, 0, none⟩) M M) := by
    have := (m2.top 1 (by omega)).1
    rw [this]
    show some (Value.slice (some ⟨c, 0, none⟩) (B * P * 68) (B * P * 68)) = _
    rw [HM.out]
  have m3 : Mem (w2.setCells c 0 ((List.range M).map fun i => .int .u8 (d (0 + i)))) p c k (ldj B P d 0) := by
    have h3 := (m2.setCells 0 M (fun i => d (0 + i)) (by show 0 + M ≤ B * P * 68; rw [HM.out]; omega))
    refine h3.tells rfl rfl rfl rfl rfl rfl rfl rfl (fun i hi => ?_) (fun b _ => ⟨by simp [ldj, Fl.new], by simp [ldj, Fl.new], by simp [ldj, Fl.new], rfl⟩)
    have hi' : i < M := by rw [← HM.out]; exact hi
    show d i = if 0 ≤ i ∧ i < 0 + M then d (0 + (i - 0)) else 255
    rw [if_pos (by omega)]; simp
  have K3 : Keep (fun _ => False) w (w2.setCells c 0 ((List.range M).map fun i => .int .u8 (d (0 + i)))) := (K1.trans K2).next ((Keep.refl (Own p c k) w2).setCells (b := c) (Or.inl (Or.inr (Or.inl rfl))) _ _) (fun x hx e => by rcases e with rfl | rfl | rfl <;> omega)
  generalize hw3 : w2.setCells c 0 ((List.range M).map fun i => .int .u8 (d (0 + i))) = w3 at *
  have t2 : w3.cell? ⟨p, 2, none⟩ = some (.slice (some ⟨k, 0, none⟩) B B) := (m3.top 2 (by omega)).1
  clear hw3 hcel hblk2 m1 m2 K1 K2
  go_wp2_with fail
  clear hcp t1 t2
  go_loopw [37] (fun i wr => ∃ j : Nat, j ≤ B ∧ i = .int .i64 j ∧ Mem wr p c k (ldj B P d j) ∧ Keep (fun _ => False) w wr ∧ ∀ b, b < j → Good B P d b) (fun i _ => B - (intOf i).toNat)
  case atStart => exact ⟨0, by omega, rfl, m3, K3, fun b hb => by omega⟩
  case round =>
    obtain ⟨j, hj, rfl, mj, Kj, hall⟩ := hrel
    clear m3 K3
    have HA : Hid (∀ b, b < j → Good B P d b) := hall
    by_cases hlt : j < B
    · obtain ⟨nx, hnx⟩ := Int.eq_ofNat_of_zero_le (hd (M + 2 * j + 1)).1
      obtain ⟨x, hx⟩ : ∃ x, d (M + 2 * j) = x := ⟨_, rfl⟩
      have hx0 := hd (M + 2 * j)
      have hn0 := hd (M + 2 * j + 1)
      have hbk := hblk.keep Kj (fun e => e)
      have c1 : wr.cell? ⟨g, M + 2 * j, none⟩ = some (.int .u8 (d (M + 2 * j))) := (hbk (M + 2 * j) (by omega)).1
      have c2 : wr.cell? ⟨g, M + 2 * j + 1, none⟩ = some (.int .u8 (d (M + 2 * j + 1))) := (hbk (M + 2 * j + 1) (by omega)).1
      rw [hx] at c1 hx0
      rw [hnx] at c2 hn0
      have hlb0 := loadBlock_any mj.drew (ldj_ok b1 (by omega) p1 (by omega) hd hall) (show j < B from hlt) hx0 (by omega : nx ≤ 255)
      have hx' : d (B * P * 68 + 2 * j) = x := by rw [HM.out]; exact hx
      have hn' : d (B * P * 68 + 2 * j + 1) = nx := by rw [HM.out]; exact hnx
      have hlb : Calls Try.prog 48 #[.pointer (some ⟨p, 0, none⟩), .int .i64 j, .int .u8 x, .int .i64 nx] wr.drew fun e w2 => ∃ u, e = .returned u ∧ (fun u w2 => ∃ r : Bool, u = .bool r ∧ (r = true → Good B P d j ∧ Mem w2 p c k (ldj B P d (j + 1))) ∧ (r = false → ¬ Good B P d j) ∧ Keep (Own p c k) wr w2) u w2 := by
        refine hlb0.mono ?_
        rintro e w6 ⟨hl, hk6⟩
        have hk6' := ((Keep.refl _ wr).drew).trans hk6
        rcases hl with ⟨rfl, hq, hm⟩ | ⟨rfl, hq⟩
        · rw [ldj_next hx' hn'] at hm
          exact ⟨_, rfl, true, rfl, fun _ => ⟨(ldj_fits hx' hn').1 hq, hm⟩, fun e => absurd e (by decide), hk6'⟩
        · exact ⟨_, rfl, false, rfl, fun e => absurd e (by decide), fun _ q => hq ((ldj_fits hx' hn').2 q), hk6'⟩
      have hgo : ¬ Own p c k g := fun e => by rcases e with rfl | rfl | rfl <;> omega
      have c1k : ∀ w', Keep (Own p c k) wr w' → w'.cell? ⟨g, M + 2 * j, none⟩ = some (.int .u8 x) := fun w' h => by rw [← hx]; exact ((hbk.keep h hgo) (M + 2 * j) (by omega)).1
      have c2k : ∀ w', Keep (Own p c k) wr w' → w'.cell? ⟨g, M + 2 * j + 1, none⟩ = some (.int .u8 nx) := fun w' h => by rw [← hnx]; exact ((hbk.keep h hgo) (M + 2 * j + 1) (by omega)).1
      have t1 : wr.cell? ⟨p, 1, none⟩ = some (.slice (some ⟨c, 0, none⟩) M M) := by
        have := (mj.top 1 (by omega)).1
        rw [this]
        show some (Value.slice (some ⟨c, 0, none⟩) (B * P * 68) (B * P * 68)) = _
        rw [HM.out]
      have hlt' : (j : Int) < B := by omega
      have e1 : ((M : Int) + j * 2) = M + 2 * j := by omega
      have e2 : ((M : Int) + 2 * j) < M + 2 * B := by omega
      have e3 : ((M : Int) + 2 * j + 1) < M + 2 * B := by omega
      have e4 : 0 ≤ ((M : Int) + 2 * j) := by omega
      have e5 : 0 ≤ ((M : Int) + 2 * j + 1) := by omega
      have e6 : ((M : Int) + 2 * j).toNat = M + 2 * j := by omega
      have e8 : IntKind.i64.wrap ((M : Int) + 2 * j + 1) = (M : Int) + 2 * j + 1 := by rw [IntKind.wrap_i64]; omega
      have e9 : IntKind.i64.wrap (nx : Int) = nx := by rw [IntKind.wrap_i64]; omega
      have e7 : ((M : Int) + 2 * j + 1).toNat = M + 2 * j + 1 := by omega
      have hKy : ∀ w6, Keep (Own p c k) wr w6 → Keep (fun _ => False) w w6 := fun w6 h => Kj.next h (fun x hx e => by rcases e with rfl | rfl | rfl <;> omega)
      clear hx hnx hx' hn' hlb0 hbk
      go_wp2_with fail
      refine wp_region_noPanic ?_
      refine wp_region_held_drew (S := fun w' => w'.cell? ⟨g, M + 2 * j, none⟩ = some (.int .u8 x) ∧ w'.cell? ⟨g, M + 2 * j + 1, none⟩ = some (.int .u8 nx)) (by kernel_rfl) (⟨c1, c2⟩) (fun hH0 => ?_)
      refine' wpAnyH_take (i := 0) (oi := { dst := some 48, op := Op.move (Operand.tmp 8), type := 23, pos := "nand.go:187", after := #[], guard := none }) (v := _) rfl (by kernel_rfl) (by kernel_rfl) (by kernel_rfl) (fun _ _ _ h => h) (Or.inl ⟨by rfl, ?hy0⟩) hH0 ?r0
      case hy0 => (intro w' hSw; clear hSw; go_simp; try with_reducible rfl)
      simp only [Act.put, List.setIfInBounds_toArray, List.set_cons_zero, List.set_cons_succ]
      refine' wpAnyH_take (i := 1) (oi := { dst := some 49, op := Op.move (Operand.tmp 10), type := 3, pos := "nand.go:187", after := #[], guard := none }) (v := _) rfl (by kernel_rfl) (by kernel_rfl) (by kernel_rfl) (fun _ _ _ h => h) (Or.inl ⟨by rfl, ?hy1⟩) hH0 ?r1
      case hy1 => (intro w' hSw; clear hSw; go_simp; try with_reducible rfl)
      simp only [Act.put, List.setIfInBounds_toArray, List.set_cons_zero, List.set_cons_succ]
      refine' wpAnyH_take (i := 2) (oi := { dst := some 50, op := Op.move (Operand.tmp 2), type := 28, pos := "nand.go:187", after := #[], guard := none }) (v := _) rfl (by kernel_rfl) (by kernel_rfl) (by kernel_rfl) (fun _ _ _ h => h) (Or.inl ⟨by rfl, ?hy2⟩) hH0 ?r2
      case hy2 => (intro w' hSw; clear hSw; go_simp; try with_reducible rfl)
      simp only [Act.put, List.setIfInBounds_toArray, List.set_cons_zero, List.set_cons_succ]
      refine' wpAnyH_take (i := 3) (oi := { dst := some 51, op := Op.move (Operand.tmp 11), type := 3, pos := "nand.go:187", after := #[], guard := none }) (v := _) rfl (by kernel_rfl) (by kernel_rfl) (by kernel_rfl) (fun _ _ _ h => h) (Or.inl ⟨by rfl, ?hy3⟩) hH0 ?r3
      case hy3 => (intro w' hSw; clear hSw; go_simp; try with_reducible rfl)
      simp only [Act.put, List.setIfInBounds_toArray, List.set_cons_zero, List.set_cons_succ]
      refine' wpAnyH_take (i := 4) (oi := { dst := some 52, op := Op.indexAddr 28 (Operand.tmp 50) (Operand.tmp 51), type := 0, pos := "nand.go:187", after := #[{ on := 2, ground := Ground.data }, { on := 3, ground := Ground.data }], guard := none }) (v := _) rfl (by kernel_rfl) (by kernel_rfl) (by kernel_rfl) (fun _ _ _ h => h) (Or.inl ⟨by rfl, ?hy4⟩) hH0 ?r4
      case hy4 => (intro w' hSw; clear hSw; go_simp; try with_reducible rfl)
      simp only [Act.put, List.setIfInBounds_toArray, List.set_cons_zero, List.set_cons_succ]
      refine' wpAnyH_take (i := 5) (oi := { dst := some 53, op := Op.load 5 (Operand.tmp 52), type := 5, pos := "nand.go:187", after := #[{ on := 4, ground := Ground.data }], guard := none }) (v := _) rfl (by kernel_rfl) (by kernel_rfl) (by kernel_rfl) (fun _ _ _ h => h) (Or.inl ⟨by rfl, ?hy5⟩) hH0 ?r5
      case hy5 => (intro w' hSw; obtain ⟨c1, c2⟩ := hSw; go_simp; try with_reducible rfl)
      simp only [Act.put, List.setIfInBounds_toArray, List.set_cons_zero, List.set_cons_succ]
      refine' wpAnyH_take (i := 6) (oi := { dst := some 54, op := Op.move (Operand.tmp 2), type := 28, pos := "nand.go:187", after := #[], guard := none }) (v := _) rfl (by kernel_rfl) (by kernel_rfl) (by kernel_rfl) (fun _ _ _ h => h) (Or.inl ⟨by rfl, ?hy6⟩) hH0 ?r6
      case hy6 => (intro w' hSw; clear hSw; go_simp; try with_reducible rfl)
      simp only [Act.put, List.setIfInBounds_toArray, List.set_cons_zero, List.set_cons_succ]
      refine' wpAnyH_take (i := 7) (oi := { dst := some 55, op := Op.move (Operand.tmp 11), type := 3, pos := "nand.go:187", after := #[], guard := none }) (v := _) rfl (by kernel_rfl) (by kernel_rfl) (by kernel_rfl) (fun _ _ _ h => h) (Or.inl ⟨by rfl, ?hy7⟩) hH0 ?r7
      case hy7 => (intro w' hSw; clear hSw; go_simp; try with_reducible rfl)
      simp only [Act.put, List.setIfInBounds_toArray, List.set_cons_zero, List.set_cons_succ]
      refine' wpAnyH_take (i := 8) (oi := { dst := some 56, op := Op.binOp BinOp.add 3 (Operand.tmp 55) (Operand.const (Value.int IntKind.i64 1)) 3, type := 3, pos := "nand.go:187", after := #[{ on := 7, ground := Ground.data }], guard := none }) (v := _) rfl (by kernel_rfl) (by kernel_rfl) (by kernel_rfl) (fun _ _ _ h => h) (Or.inl ⟨by rfl, ?hy8⟩) hH0 ?r8
      case hy8 => (intro w' hSw; clear hSw; go_simp; try with_reducible rfl)
      simp only [Act.put, List.setIfInBounds_toArray, List.set_cons_zero, List.set_cons_succ]
      refine' wpAnyH_take (i := 9) (oi := { dst := some 57, op := Op.indexAddr 28 (Operand.tmp 54) (Operand.tmp 56), type := 0, pos := "nand.go:187", after := #[{ on := 6, ground := Ground.data }, { on := 8, ground := Ground.data }], guard := none }) (v := _) rfl (by kernel_rfl) (by kernel_rfl) (by kernel_rfl) (fun _ _ _ h => h) (Or.inl ⟨by rfl, ?hy9⟩) hH0 ?r9
      case hy9 => (intro w' hSw; clear hSw; go_simp; try with_reducible rfl)
      simp only [Act.put, List.setIfInBounds_toArray, List.set_cons_zero, List.set_cons_succ]
      refine' wpAnyH_take (i := 10) (oi := { dst := some 58, op := Op.load 5 (Operand.tmp 57), type := 5, pos := "nand.go:187", after := #[{ on := 9, ground := Ground.data }], guard := none }) (v := _) rfl (by kernel_rfl) (by kernel_rfl) (by kernel_rfl) (fun _ _ _ h => h) (Or.inl ⟨by rfl, ?hy10⟩) hH0 ?r10
      case hy10 => (intro w' hSw; obtain ⟨c1, c2⟩ := hSw; go_simp; try with_reducible rfl)
      simp only [Act.put, List.setIfInBounds_toArray, List.set_cons_zero, List.set_cons_succ]
      refine' wpAnyH_take (i := 11) (oi := { dst := some 59, op := Op.convert 5 3 (Operand.tmp 58), type := 3, pos := "nand.go:187", after := #[{ on := 10, ground := Ground.data }], guard := none }) (v := _) rfl (by kernel_rfl) (by kernel_rfl) (by kernel_rfl) (fun _ _ _ h => h) (Or.inl ⟨by rfl, ?hy11⟩) hH0 ?r11
      case hy11 => (intro w' hSw; clear hSw; go_simp; try with_reducible rfl)
      simp only [Act.put, List.setIfInBounds_toArray, List.set_cons_zero, List.set_cons_succ]
      refine wpAnyH_ready (rs := [12]) (by kernel_rfl) (by simp) ?_
      refine AllReadyH.cons (o := { dst := some 60, op := Op.call { callee := Callee.value (Operand.func 48), args := #[Operand.tmp 48, Operand.tmp 49, Operand.tmp 53, Operand.tmp 59], argTypes := #[23, 3, 5, 3] }, type := 4, pos := "nand.go:187", after := #[{ on := 0, ground := Ground.data }, { on := 1, ground := Ground.data }, { on := 5, ground := Ground.data }, { on := 11, ground := Ground.data }], guard := none }) rfl (fun K hK => ?_) AllReadyH.nil
      refine step_call_want (vs := #[.pointer (some ⟨p, 0, none⟩), .int .i64 j, .int .u8 x, .int .i64 nx]) (R := fun u w2 => ∃ r : Bool, u = .bool r ∧ (r = true → Good B P d j ∧ Mem w2 p c k (ldj B P d (j + 1))) ∧ (r = false → ¬ Good B P d j) ∧ Keep (Own p c k) wr w2) (by rfl) 48 #[Operand.tmp 48, Operand.tmp 49, Operand.tmp 53, Operand.tmp 59] #[23, 3, 5, 3] rfl (by simp [Act.eval]) call48 (hlb) ?_
      rintro u w6 ⟨r, rfl, hyes, hno, hk6⟩
      refine hK.out _ _ (⟨c1k w6 hk6, c2k w6 hk6⟩) (fun hH1 => ?_)
      clear hK K hH0
      simp only [Act.put, List.setIfInBounds_toArray, List.set_cons_zero, List.set_cons_succ]
      cases r
      · have hng := hno rfl
        clear hyes hno
        refine' wpAnyH_take (i := 13) (oi := { dst := some 61, op := Op.unOp UnOp.not 4 (Operand.tmp 60), type := 4, pos := "nand.go:187", after := #[{ on := 12, ground := Ground.data }], guard := none }) (v := _) rfl (by kernel_rfl) (by kernel_rfl) (by kernel_rfl) (fun _ _ _ h => h) (Or.inl ⟨by rfl, ?hyn13⟩) hH1 ?rn13
        case hyn13 => (intro w' hSw; clear hSw; go_simp; try with_reducible rfl)
        simp only [Act.put, List.setIfInBounds_toArray, List.set_cons_zero, List.set_cons_succ]
        refine wpAnyH_done (by kernel_rfl) ?_ _
        refine NoPanic.normal ?_
        go_wp2_with fail
        go_ret2
        exact Or.inr ⟨rfl, fun h => hng (h j hlt), hKy w6 hk6⟩
      · obtain ⟨hg1, hm1⟩ := hyes rfl
        clear hyes hno
        refine' wpAnyH_take (i := 13) (oi := { dst := some 61, op := Op.unOp UnOp.not 4 (Operand.tmp 60), type := 4, pos := "nand.go:187", after := #[{ on := 12, ground := Ground.data }], guard := none }) (v := _) rfl (by kernel_rfl) (by kernel_rfl) (by kernel_rfl) (fun _ _ _ h => h) (Or.inl ⟨by rfl, ?hyy13⟩) hH1 ?ry13
        case hyy13 => (intro w' hSw; clear hSw; go_simp; try with_reducible rfl)
        simp only [Act.put, List.setIfInBounds_toArray, List.set_cons_zero, List.set_cons_succ]
        refine wpAnyH_done (by kernel_rfl) ?_ _
        refine NoPanic.normal ?_
        go_wp2_with fail
        refine ⟨⟨j + 1, by omega, by go_num, hm1, hKy w6 hk6, fun b hb => ?_⟩, by simp [intOf]; omega⟩
        by_cases e : b = j
        · subst e; exact hg1
        · exact HA.out b (by omega)
    · obtain rfl : j = B := by omega
      have hfin : Mem wr p c k (Fl.load j P d) := mj.tells rfl rfl rfl rfl rfl rfl rfl rfl (fun i hi => rfl) (fun b hb => by
        have hb' : b < j := hb
        refine ⟨?_, ?_, ?_, rfl⟩
        · show (d (j * P * 68 + 2 * b) % 2 == 1) = if b < j then (d (j * P * 68 + 2 * b) % 2 == 1) else false; rw [if_pos hb']
        · show decide (2 ≤ d (j * P * 68 + 2 * b)) = if b < j then decide (2 ≤ d (j * P * 68 + 2 * b)) else false; rw [if_pos hb']
        · show (d (j * P * 68 + 2 * b + 1)).toNat = if b < j then (d (j * P * 68 + 2 * b + 1)).toNat else 0; rw [if_pos hb'])
      go_wp2_with fail
      go_ret2
      exact Or.inl ⟨p, c, k, rfl, HA.out, hfin, hp, hc, hk, Kj⟩
end Nd
end Go.Proofs.Ytjafjofonckaaaa
