/-
  The flat map in memory, and what its calls do.
-/
import Derived.Test.YtbdankhlbepjoaaFlatA
import Derived.Deep.RegionHeld3
namespace Go.Proofs.Ytbdankhlbepjoaa
open Go.ChangeShapes Go.WideShapes Go.ChangeAt Go.RowKit
namespace Tg

/-- The map's two cells. -/
def ftop (N C : Nat) (a : Option Addr) (c : Nat) (i : Nat) : Value := if i = 0 then .int .i64 (N : Int) else .slice a C c
/-- A flat map whose blocks are B or later: its struct in q, most N, its entries t. -/
structure Fm (B : Nat) (wr : World) (q N C : Nat) (t : List Int) : Prop where
  ex : ∃ a c, Blk wr q 2 (ftop N C a c) ∧ Is wr a c t ∧ ∀ g, a = some ⟨g, 0, none⟩ → B ≤ g ∧ g ≠ q ∧ g < wr.heap.size
  bq : B ≤ q
  tl : t.length = C
  tab : Tab t
  cap1 : 1 ≤ C
  cap2 : C ≤ 512
  N1 : 1 ≤ N
  N2 : N ≤ 512
  len : (refR t C).length ≤ N
theorem Fm.lt {B : Nat} {wr : World} {q N C : Nat} {t : List Int} (h : Fm B wr q N C t) : q < wr.heap.size := by
  obtain ⟨a, c, hb, -⟩ := h.ex
  exact hb.lt (by omega)
theorem Fm.other {S : Nat → Prop} {B : Nat} {wr w' : World} {q N C : Nat} {t : List Int} (h : Fm B wr q N C t) (k : Keep S wr w') (hS : ∀ x, S x → x < B) : Fm B w' q N C t := by
  obtain ⟨a, c, hb, hi, hg⟩ := h.ex
  exact ⟨⟨a, c, hb.keep k (fun e => by have := hS _ e; have := h.bq; omega), hi.keep k (fun g e s => by have := hS _ s; have := (hg g e).1; omega), fun g e => ⟨(hg g e).1, (hg g e).2.1, by have := (hg g e).2.2; have := k.size; omega⟩⟩, h.bq, h.tl, h.tab, h.cap1, h.cap2, h.N1, h.N2, h.len⟩
theorem Fm.more {B : Nat} {wr w' : World} {q N C : Nat} {t : List Int} (h : Fm B wr q N C t) (k : Keep (fun _ => False) wr w') : Fm B w' q N C t := h.other k (fun _ e => e.elim)

set_option maxRecDepth 100000 in
theorem fright {B : Nat} {wr : World} {q N C : Nat} {t : List Int} (h : Fm B wr q N C t) (lba n : Int) (hl : lba ≤ 9223372036854775807) :
    Calls Try.prog 31 #[.pointer (some ⟨q, 0, none⟩), .int .i64 lba, .int .i64 n] wr fun e w' => e = .returned (.bool (okR (C : Int) lba n)) ∧ w' = wr := by
  obtain ⟨a, c, hb, -, -⟩ := h.ex
  have c1 : wr.cell? ⟨q, 1, none⟩ = some (.slice a C c) := (hb 1 (by omega)).1
  have hc := h.cap2
  clear h hb
  unfold okR
  by_cases h1 : 1 ≤ n
  · by_cases h2 : 0 ≤ lba
    · have dw : IntKind.i64.wrap ((C : Int) - lba) = (C : Int) - lba := by rw [IntKind.wrap_i64] <;> omega
      go_enter Try.func31, Try.ntmps31
      go_wp2_with fail
      go_ret
      exact ⟨by simp [h1, h2], rfl⟩
    · go_enter Try.func31, Try.ntmps31
      go_wp2_with fail
      go_ret
      exact ⟨by simp; intros; omega, rfl⟩
  · go_enter Try.func31, Try.ntmps31
    go_wp2_with fail
    go_ret
    exact ⟨by simp; intros; omega, rfl⟩

set_option maxRecDepth 100000 in
theorem ftable {B : Nat} {wr : World} {q N C : Nat} {t : List Int} (h : Fm B wr q N C t) :
    Calls Try.prog 27 #[.pointer (some ⟨q, 0, none⟩)] wr fun e w' => ∃ a' c', e = .returned (.slice a' C c') ∧ Ri wr w' a' c' t := by
  obtain ⟨a, c, hb, hi, -⟩ := h.ex
  have c1 : wr.cell? ⟨q, 1, none⟩ = some (.slice a C c) := (hb 1 (by omega)).1
  have hcl := clone_any hi (by have := h.cap1; have := h.tl; omega) (by have := h.cap2; have := h.tl; omega)
  rw [h.tl] at hcl
  clear h hb hi
  go_enter Try.func27, Try.ntmps27
  go_wp2_with (go_at_call 47; refine hcl.mono ?_; rintro e w1 ⟨a', c', rfl, R1⟩)
  go_ret
  exact ⟨_, _, rfl, R1⟩
set_option maxRecDepth 100000 in
theorem fruns {B : Nat} {wr : World} {q N C : Nat} {t : List Int} (h : Fm B wr q N C t) :
    Calls Try.prog 25 #[.pointer (some ⟨q, 0, none⟩)] wr fun e w' => ∃ a' c', e = .returned (.slice a' (refR t C).length c') ∧ Rr wr w' a' c' (refR t C) := by
  obtain ⟨a, c, hb, hi, -⟩ := h.ex
  have c1 : wr.cell? ⟨q, 1, none⟩ = some (.slice a C c) := (hb 1 (by omega)).1
  have hcl := runsOf_any hi (by have := h.cap2; have := h.tl; omega) h.tab
  rw [h.tl] at hcl
  clear h hb hi
  generalize refR t C = m at hcl ⊢
  go_enter Try.func25, Try.ntmps25
  go_wp2_with (go_at_call 33; refine hcl.mono ?_; rintro e w1 ⟨a', c', rfl, R1⟩)
  go_ret
  exact ⟨_, _, rfl, R1⟩
set_option maxRecDepth 100000 in
theorem fcount {B : Nat} {wr : World} {q N C : Nat} {t : List Int} (h : Fm B wr q N C t) :
    Calls Try.prog 11 #[.pointer (some ⟨q, 0, none⟩)] wr fun e w' => e = .returned (.int .i64 ((refR t C).length : Int)) ∧ Keep (fun _ => False) wr w' := by
  obtain ⟨a, c, hb, hi, -⟩ := h.ex
  have c1 : wr.cell? ⟨q, 1, none⟩ = some (.slice a C c) := (hb 1 (by omega)).1
  have hcl := runsOf_any hi (by have := h.cap2; have := h.tl; omega) h.tab
  rw [h.tl] at hcl
  clear h hb hi
  generalize refR t C = m at hcl ⊢
  go_enter Try.func11, Try.ntmps11
  go_wp2_with (go_at_call 33; refine hcl.mono ?_; rintro e w1 ⟨a', c', rfl, R1⟩)
  go_ret
  exact ⟨rfl, R1.keep⟩
set_option maxRecDepth 100000 in
theorem fcap {B : Nat} {wr : World} {q N C : Nat} {t : List Int} (h : Fm B wr q N C t) :
    Calls Try.prog 29 #[.pointer (some ⟨q, 0, none⟩)] wr fun e w' => e = .returned (.int .i64 (C : Int)) ∧ w' = wr := by
  obtain ⟨a, c, hb, -, -⟩ := h.ex
  have c1 : wr.cell? ⟨q, 1, none⟩ = some (.slice a C c) := (hb 1 (by omega)).1
  clear h hb
  go_enter Try.func29, Try.ntmps29
  go_wp2_with fail
  go_ret
  exact ⟨rfl, rfl⟩
set_option maxRecDepth 100000 in
theorem fmost {B : Nat} {wr : World} {q N C : Nat} {t : List Int} (h : Fm B wr q N C t) :
    Calls Try.prog 30 #[.pointer (some ⟨q, 0, none⟩)] wr fun e w' => e = .returned (.int .i64 (N : Int)) ∧ w' = wr := by
  obtain ⟨a, c, hb, -, -⟩ := h.ex
  have c1 : wr.cell? ⟨q, 0, none⟩ = some (.int .i64 (N : Int)) := (hb 0 (by omega)).1
  clear h hb
  go_enter Try.func30, Try.ntmps30
  go_wp2_with fail
  go_ret
  exact ⟨rfl, rfl⟩
set_option maxRecDepth 100000 in
theorem fget {B : Nat} {wr : World} {q N C : Nat} {t : List Int} (h : Fm B wr q N C t) (lba : Int) :
    Calls Try.prog 22 #[.pointer (some ⟨q, 0, none⟩), .int .i64 lba] wr fun e w' => e = .returned (.tuple #[.int .i64 ((entry t lba).getD 0), .bool (entry t lba).isSome]) ∧ w' = wr := by
  obtain ⟨a, c, hb, hi, -⟩ := h.ex
  have c1 : wr.cell? ⟨q, 1, none⟩ = some (.slice a C c) := (hb 1 (by omega)).1
  have hc := h.cap2
  have htb := h.tab lba.toNat
  have hcc := hi.1
  have hcc2 := hi.2.1
  have htl := h.tl
  rw [htl] at hcc
  have hent : entry t lba = if 0 ≤ lba ∧ lba < (C : Int) ∧ 0 ≤ t.getD lba.toNat (-1) then some (t.getD lba.toNat (-1)) else none := by unfold entry; rw [htl]
  by_cases k1 : lba < 0
  · have hE : Hid (entry t lba = none) := by show entry t lba = none; rw [hent, if_neg (by omega)]
    clear h hb hi hent htl htb
    go_enter Try.func22, Try.ntmps22
    go_wp2_with fail
    go_ret2
    exact ⟨by rw [show entry t lba = none from hE]; rfl, rfl⟩
  by_cases k2 : (C : Int) ≤ lba
  · have hE : Hid (entry t lba = none) := by show entry t lba = none; rw [hent, if_neg (by omega)]
    clear h hb hi hent htl htb
    go_enter Try.func22, Try.ntmps22
    go_wp2_with fail
    go_ret2
    exact ⟨by rw [show entry t lba = none from hE]; rfl, rfl⟩
  obtain ⟨L, rfl⟩ : ∃ L : Nat, lba = (L : Int) := ⟨lba.toNat, by omega⟩
  obtain ⟨g, rfl, hx⟩ := hi.at (i := L) (by omega)
  rw [Int.toNat_natCast] at hent htb
  have dL : (L : Int) < (C : Int) := by omega
  generalize t.getD L (-1) = X at hent hx htb
  by_cases k3 : X = -1
  · have kb : (X == -1) = true := by simp [k3]
    have hE : Hid (entry t (L : Int) = none) := by show entry t (L : Int) = none; rw [hent, if_neg (by omega)]
    clear h hb hi hent htl htb k3
    go_enter Try.func22, Try.ntmps22
    go_wp2_with fail
    go_ret2
    exact ⟨by rw [show entry t (L : Int) = none from hE]; rfl, rfl⟩
  · have kb : (X == -1) = false := by simp [k3]
    have hE : Hid (entry t (L : Int) = some X) := by show entry t (L : Int) = some X; rw [hent, if_pos (by omega)]
    clear h hb hi hent htl htb k3
    go_enter Try.func22, Try.ntmps22
    go_wp2_with fail
    go_ret2
    exact ⟨by rw [show entry t (L : Int) = some X from hE]; rfl, rfl⟩
set_option maxRecDepth 100000 in
theorem frange {B : Nat} {wr : World} {q N C : Nat} {t : List Int} (h : Fm B wr q N C t) {lba n : Int} (ho : okR (C : Int) lba n = true) :
    Calls Try.prog 19 #[.pointer (some ⟨q, 0, none⟩), .int .i64 lba, .int .i64 n] wr fun e w' => ∃ a' c', e = .returned (.tuple #[.slice a' (refP t lba.toNat n.toNat).length c', .int .i64 0]) ∧ Rq wr w' a' c' (refP t lba.toNat n.toNat) := by
  obtain ⟨o1, o2, o3⟩ := okR_iff.1 ho
  obtain ⟨a, c, hb, hi, -⟩ := h.ex
  have c1 : wr.cell? ⟨q, 1, none⟩ = some (.slice a C c) := (hb 1 (by omega)).1
  have hr := fright h lba n (by have := h.cap2; omega)
  rw [ho] at hr
  have hp := piecesOf_any hi (by have := h.cap2; have := h.tl; omega) h.tab (lba := lba.toNat) (n := n.toNat) (by have := h.tl; omega) (L := lba) (E := lba + n) (by omega) (by omega)
  rw [h.tl] at hp
  have dw := wrapI (x := lba + n) (by omega) (by have := h.cap2; omega)
  clear h hb hi ho
  generalize refP t lba.toNat n.toNat = m at hp ⊢
  go_enter Try.func19, Try.ntmps19
  go_wp2_with (first | (go_at_call 31; refine hr.mono ?_; rintro e w1 ⟨rfl, e1⟩; have e1 := e1.symm; subst e1) | (go_at_call 43; refine hp.mono ?_; rintro e w2 ⟨a', c', rfl, R2⟩))
  go_ret2
  exact ⟨_, _, rfl, R2⟩
set_option maxRecDepth 100000 in
theorem frange_no {B : Nat} {wr : World} {q N C : Nat} {t : List Int} (h : Fm B wr q N C t) {lba n : Int} (hl : lba ≤ 9223372036854775807) (ho : okR (C : Int) lba n = false) :
    Calls Try.prog 19 #[.pointer (some ⟨q, 0, none⟩), .int .i64 lba, .int .i64 n] wr fun e w' => e = .returned (.tuple #[.slice none 0 0, .int .i64 1]) ∧ w' = wr := by
  have hr := fright h lba n hl
  rw [ho] at hr
  clear h ho
  go_enter Try.func19, Try.ntmps19
  go_wp2_with (go_at_call 31; refine hr.mono ?_; rintro e w1 ⟨rfl, e1⟩; have e1 := e1.symm; subst e1)
  go_ret2
  exact ⟨rfl, rfl⟩

/-- Done, or too many runs and nothing changed. -/
def Fid (B : Nat) (wa : World) (q N C : Nat) (u : List Int) (e : Ending) (w' : World) : Prop :=
  ((refR u C).length ≤ N ∧ e = .returned (.int .i64 0) ∧ Fm B w' q N C u ∧ Keep (fun x => x = q) wa w') ∨ (N < (refR u C).length ∧ e = .returned (.int .i64 5) ∧ Keep (fun _ => False) wa w')
theorem ftop_set (N C : Nat) (a : Option Addr) (c : Nat) (a' : Option Addr) (c' : Nat) (i : Nat) (hi : i < 2) : (if i = 1 then Value.slice a' C c' else ftop N C a c i) = ftop N C a' c' i := by
  unfold ftop
  have : i = 0 ∨ i = 1 := by omega
  rcases this with rfl | rfl <;> rfl
set_option maxRecDepth 100000 in
theorem ftake {B : Nat} {wr : World} {q N C : Nat} {t : List Int} (h : Fm B wr q N C t) {a' : Option Addr} {c' : Nat} {u : List Int} (hu : Is wr a' c' u) (hg : ∀ g, a' = some ⟨g, 0, none⟩ → B ≤ g ∧ g ≠ q ∧ g < wr.heap.size) (hul : u.length = C) (hub : Tab u) :
    Calls Try.prog 32 #[.pointer (some ⟨q, 0, none⟩), .slice a' C c'] wr (Fid B wr q N C u) := by
  obtain ⟨a, c, hb, -, -⟩ := h.ex
  have hru := runsOf_any (hu.more (Keep.refl (fun _ => False) wr).drew) (by have := h.cap2; omega) hub
  rw [hul] at hru
  have hlen := refR_len u C
  have hcap := h.cap2
  have hN2 := h.N2
  have hS : ∀ w', Keep (fun _ => False) wr.drew w' → w'.cell? ⟨q, 0, none⟩ = some (.int .i64 (N : Int)) := fun w' hk => (Blk.keep hb ((Keep.refl (fun _ => False) wr).drew.trans hk) (fun e => e) 0 (by omega)).1
  have hF : ∀ w', Keep (fun _ => False) wr w' → (refR u C).length ≤ N → w'.cell? ⟨q, 1, none⟩ = some (.slice a C c) ∧ w'.frozen? ⟨q, 1, none⟩ = false ∧ Fm B (w'.setCell ⟨q, 1, none⟩ (.slice a' C c')) q N C u ∧ Keep (fun x => x = q) wr (w'.setCell ⟨q, 1, none⟩ (.slice a' C c')) := fun w' hk hle => by
    have hb' := Blk.keep hb hk (fun e => e)
    have hk2 : Keep (fun x => x = q) wr (w'.setCell ⟨q, 1, none⟩ (.slice a' C c')) := Keep.setCell (S := fun x => x = q) (hk.mono (fun _ _ e => e.elim)) (p := ⟨q, 1, none⟩) (Or.inl rfl) _
    exact ⟨(hb' 1 (by omega)).1, (hb' 1 (by omega)).2, ⟨⟨a', c', (hb'.set 1 (.slice a' C c')).congr (fun i hi => ftop_set N C a c a' c' i hi), hu.keep hk2 (fun g e e2 => (hg g e).2.1 e2), fun g e => ⟨(hg g e).1, (hg g e).2.1, Nat.lt_of_lt_of_le (hg g e).2.2 hk2.size⟩⟩, h.bq, hul, hub, h.cap1, h.cap2, h.N1, h.N2, hle⟩, hk2⟩
  unfold Fid
  clear h hb hu
  generalize refR u C = m at hru hlen hF ⊢
  go_enter Try.func32, Try.ntmps32
  go_upto_region 1 with fail
  by_cases hf : m.length ≤ N
  · have dN : ¬ (N : Int) < (m.length : Int) := by omega
    have dNb : decide ((N : Int) < (m.length : Int)) = false := decide_eq_false dN
    have dNc : decide (N < m.length) = false := decide_eq_false (by omega)
    go_region_held3 (fun w' => w'.cell? ⟨q, 0, none⟩ = some (.int .i64 (N : Int))) (first | exact hS _ (Keep.refl _ _) | exact hS _ k1) ((go_at_call 33; refine hru.mono ?_; rintro e w1 ⟨a1, c1, rfl, R1⟩; have k1 := R1.keep))
    obtain ⟨x1, x2, x3, x4⟩ := hF w1 ((Keep.refl (fun _ => False) wr).drew.trans k1) hf
    clear hF hru hS R1
    go_wp2_with fail
    go_ret
    exact Or.inl ⟨hf, rfl, x3, x4⟩
  · have dN : (N : Int) < (m.length : Int) := by omega
    have dNb : decide ((N : Int) < (m.length : Int)) = true := decide_eq_true dN
    have dNc : decide (N < m.length) = true := decide_eq_true (by omega)
    go_region_held3 (fun w' => w'.cell? ⟨q, 0, none⟩ = some (.int .i64 (N : Int))) (first | exact hS _ (Keep.refl _ _) | exact hS _ k1) ((go_at_call 33; refine hru.mono ?_; rintro e w1 ⟨a1, c1, rfl, R1⟩; have k1 := R1.keep))
    have k2 := (Keep.refl (fun _ => False) wr).drew.trans k1
    clear hF hru hS R1
    go_wp2_with fail
    go_ret
    exact Or.inr ⟨by omega, rfl, k2⟩
end Tg
end Go.Proofs.Ytbdankhlbepjoaa
