/-
  The document's own line of a script: Line over any memory, for texts of any bytes.
-/
import Derived.Test.YtgilagmgepogbaaDoorRb
import Derived.Deep.CutBlock
import Derived.Deep.RegionHeld3
import Derived.Laws.ResultCell
set_option linter.unusedVariables false
namespace Go.Proofs.YtgilagmgepogbaaDoor
open Go.ChangeShapes Go.WideShapes Go.ChangeAt Go.RowKit
namespace Tg
open Qm Km

/-- A command of the document's own, cell by cell. -/
def crow (k a b : Int) (d : ByteArray) : Nat → Value := fun i => if i = 0 then .int .u8 k else if i = 1 then .int .i64 a else if i = 2 then .int .i64 b else .string d
/-- A command under way in block q, and the result's block r, made since w0. -/
structure Lw (w0 w : World) (r q : Nat) (k a b : Int) (d : ByteArray) : Prop where
  rs : ∃ k a b d, Blk w r 4 (crow k a b d)
  cc : Blk w q 4 (crow k a b d)
  ne : r ≠ q
  lo : w0.heap.size ≤ r ∧ w0.heap.size ≤ q
  kp : Keep (fun _ => False) w0 w
theorem Lw.more {w0 w w' : World} {r q : Nat} {k a b : Int} {d : ByteArray} (h : Lw w0 w r q k a b d) (e : Keep (fun _ => False) w w') : Lw w0 w' r q k a b d := by
  obtain ⟨k', a', b', d', hr⟩ := h.rs
  exact ⟨⟨k', a', b', d', hr.keep e (fun x => x)⟩, h.cc.keep e (fun x => x), h.ne, h.lo, h.kp.trans e⟩
theorem Lw.cells {w0 w : World} {r q : Nat} {k a b : Int} {d : ByteArray} (h : Lw w0 w r q k a b d) : w.cell? ⟨q, 0, none⟩ = some (.int .u8 k) ∧ w.cell? ⟨q, 1, none⟩ = some (.int .i64 a) ∧ w.cell? ⟨q, 2, none⟩ = some (.int .i64 b) ∧ w.cell? ⟨q, 3, none⟩ = some (.string d) :=
  ⟨(h.cc 0 (by omega)).1, (h.cc 1 (by omega)).1, (h.cc 2 (by omega)).1, (h.cc 3 (by omega)).1⟩
theorem Lw.free {w0 w : World} {r q : Nat} {k a b : Int} {d : ByteArray} (h : Lw w0 w r q k a b d) : w.frozen? ⟨q, 0, none⟩ = false ∧ w.frozen? ⟨q, 1, none⟩ = false ∧ w.frozen? ⟨q, 2, none⟩ = false ∧ w.frozen? ⟨q, 3, none⟩ = false :=
  ⟨(h.cc 0 (by omega)).2, (h.cc 1 (by omega)).2, (h.cc 2 (by omega)).2, (h.cc 3 (by omega)).2⟩
theorem Lw.res {w0 w : World} {r q : Nat} {k a b : Int} {d : ByteArray} (h : Lw w0 w r q k a b d) : ∃ x0 x1 x2 x3, w.cell? ⟨r, 0, none⟩ = some x0 ∧ w.cell? ⟨r, 1, none⟩ = some x1 ∧ w.cell? ⟨r, 2, none⟩ = some x2 ∧ w.cell? ⟨r, 3, none⟩ = some x3 ∧ w.frozen? ⟨r, 0, none⟩ = false ∧ w.frozen? ⟨r, 1, none⟩ = false ∧ w.frozen? ⟨r, 2, none⟩ = false ∧ w.frozen? ⟨r, 3, none⟩ = false := by
  obtain ⟨k', a', b', d', hr⟩ := h.rs
  exact ⟨_, _, _, _, (hr 0 (by omega)).1, (hr 1 (by omega)).1, (hr 2 (by omega)).1, (hr 3 (by omega)).1, (hr 0 (by omega)).2, (hr 1 (by omega)).2, (hr 2 (by omega)).2, (hr 3 (by omega)).2⟩
theorem Lw.set {w0 w : World} {r q : Nat} {k a b : Int} {d : ByteArray} (h : Lw w0 w r q k a b d) (j : Nat) (v : Value) {k' a' b' : Int} {d' : ByteArray} (e : ∀ i, i < 4 → (if i = j then v else crow k a b d i) = crow k' a' b' d' i) : Lw w0 (w.setCell ⟨q, j, none⟩ v) r q k' a' b' d' := by
  obtain ⟨k2, a2, b2, d2, hr⟩ := h.rs
  exact ⟨⟨k2, a2, b2, d2, hr.other h.ne _⟩, (h.cc.set j v).congr e, h.ne, h.lo, h.kp.setCell (Or.inr h.lo.2) _⟩
theorem four {P : Nat → Prop} (h0 : P 0) (h1 : P 1) (h2 : P 2) (h3 : P 3) : ∀ i, i < 4 → P i := fun i hi => by
  have : i = 0 ∨ i = 1 ∨ i = 2 ∨ i = 3 := by omega
  rcases this with rfl | rfl | rfl | rfl
  · exact h0
  · exact h1
  · exact h2
  · exact h3
theorem Lw.setk {w0 w : World} {r q : Nat} {k a b : Int} {d : ByteArray} (h : Lw w0 w r q k a b d) (x : Int) : Lw w0 (w.setCell ⟨q, 0, none⟩ (.int .u8 x)) r q x a b d := h.set 0 _ (four rfl rfl rfl rfl)
theorem Lw.seta {w0 w : World} {r q : Nat} {k a b : Int} {d : ByteArray} (h : Lw w0 w r q k a b d) (x : Int) : Lw w0 (w.setCell ⟨q, 1, none⟩ (.int .i64 x)) r q k x b d := h.set 1 _ (four rfl rfl rfl rfl)
theorem Lw.setb {w0 w : World} {r q : Nat} {k a b : Int} {d : ByteArray} (h : Lw w0 w r q k a b d) (x : Int) : Lw w0 (w.setCell ⟨q, 2, none⟩ (.int .i64 x)) r q k a x d := h.set 2 _ (four rfl rfl rfl rfl)
theorem Lw.setd {w0 w : World} {r q : Nat} {k a b : Int} {d : ByteArray} (h : Lw w0 w r q k a b d) (x : ByteArray) : Lw w0 (w.setCell ⟨q, 3, none⟩ (.string x)) r q k a b x := h.set 3 _ (four rfl rfl rfl rfl)
theorem blk_new (W : World) : Blk (W.alloc (.cells #[.int .u8 0, .int .i64 0, .int .i64 0, .string ⟨#[]⟩] 32)) W.heap.size 4 (crow 0 0 0 ⟨#[]⟩) := fun i hi => by
  have := new_cell W [.int .u8 0, .int .i64 0, .int .i64 0, .string ⟨#[]⟩] 32
  refine ⟨?_, by rw [World.frozen?, heap_alloc_new]; simp⟩
  have e : (⟨W.heap.size, i, none⟩ : Addr) = (⟨W.heap.size, 0, none⟩ : Addr).add i := by rw [Addr.add_lit, Nat.zero_add]
  rw [e]
  exact this i _ (four (P := fun i => [Value.int .u8 0, .int .i64 0, .int .i64 0, .string ⟨#[]⟩][i]? = some (crow 0 0 0 ⟨#[]⟩ i)) rfl rfl rfl rfl i hi)
set_option maxRecDepth 100000 in
theorem load_cmd {w : World} {r : Nat} {k a b : Int} {d : ByteArray} (h : Blk w r 4 (crow k a b d)) : (loadVar 32 ⟨r, 0, none⟩).run Tryd.prog w = .ok (.agg #[.int .u8 k, .int .i64 a, .int .i64 b, .string d]) w := by
  have c0 : w.cell? ⟨r, 0, none⟩ = some (.int .u8 k) := (h 0 (by omega)).1
  have c1 : w.cell? ⟨r, 1, none⟩ = some (.int .i64 a) := (h 1 (by omega)).1
  have c2 : w.cell? ⟨r, 2, none⟩ = some (.int .i64 b) := (h 2 (by omega)).1
  have c3 : w.cell? ⟨r, 3, none⟩ = some (.string d) := (h 3 (by omega)).1
  go_simp
/-- What a result that is stored leaves. -/
theorem Lw.put {w0 w : World} {r q : Nat} {k a b : Int} {d : ByteArray} (h : Lw w0 w r q k a b d) (k' a' b' : Int) (d' : ByteArray) :
    Lw w0 ((((w.setCell ⟨r, 0, none⟩ (.int .u8 k')).setCell ⟨r, 1, none⟩ (.int .i64 a')).setCell ⟨r, 2, none⟩ (.int .i64 b')).setCell ⟨r, 3, none⟩ (.string d')) r q k a b d ∧
    Blk ((((w.setCell ⟨r, 0, none⟩ (.int .u8 k')).setCell ⟨r, 1, none⟩ (.int .i64 a')).setCell ⟨r, 2, none⟩ (.int .i64 b')).setCell ⟨r, 3, none⟩ (.string d')) r 4 (crow k' a' b' d') := by
  obtain ⟨k2, a2, b2, d2, hr⟩ := h.rs
  have hb : Blk ((((w.setCell ⟨r, 0, none⟩ (.int .u8 k')).setCell ⟨r, 1, none⟩ (.int .i64 a')).setCell ⟨r, 2, none⟩ (.int .i64 b')).setCell ⟨r, 3, none⟩ (.string d')) r 4 (crow k' a' b' d') :=
    ((((hr.set 0 _).set 1 _).set 2 _).set 3 _).congr (four rfl rfl rfl rfl)
  refine ⟨⟨⟨_, _, _, _, hb⟩, (((h.cc.other (fun e => h.ne e.symm) _).other (fun e => h.ne e.symm) _).other (fun e => h.ne e.symm) _).other (fun e => h.ne e.symm) _, h.ne, h.lo, ?_⟩, hb⟩
  exact (((h.kp.setCell (Or.inr h.lo.1) _).setCell (Or.inr h.lo.1) _).setCell (Or.inr h.lo.1) _).setCell (Or.inr h.lo.1) _
/-- What a line's reading answers. -/
def RSays (o : Option Cm) (e : Ending) : Prop := ∃ k a b d, e = .returned (.tuple #[.agg #[.int .u8 k, .int .i64 a, .int .i64 b, .string d], .bool o.isSome]) ∧ ∀ c, o = some c → k = c.k ∧ a = c.a ∧ b = c.b ∧ d = str c.d
/-- Which kind has how many numbers. -/
def KN (O : Option Cm) (R : List Nat) (k n : Nat) : Prop :=
  (n = 0 ∧ k ≠ 119 ∧ O = if ends R then some ⟨k, 0, 0, []⟩ else none) ∨ (n = 1 ∧ k ≠ 119 ∧ O = cnt k R) ∨ (n = 2 ∧ k ≠ 119 ∧ O = rng k R) ∨ (n = 2 ∧ k = 119 ∧ O = wri R)

/-- What was read of the numbers so far. -/
def Stp (R : List Nat) (i : Nat) (RR : List Nat) (a b : Int) : Prop :=
  (i = 0 ∧ RR = R ∧ a = 0 ∧ b = 0) ∨ (i = 1 ∧ RR = rst R ∧ num (wrd R) = some a ∧ b = 0) ∨ (i = 2 ∧ RR = rst (rst R) ∧ num (wrd R) = some a ∧ num (wrd (rst R)) = some b)
theorem Stp.ok {R RR : List Nat} {i : Nat} {a b : Int} (h : Stp R i RR a b) (hb : ∀ x ∈ R, x < 256) (hl : R.length ≤ 1000000000000) : (∀ x ∈ RR, x < 256) ∧ RR.length ≤ 1000000000000 ∧ i ≤ 2 := by
  have h1 := rst_len R; have h2 := rst_len (rst R)
  rcases h with ⟨rfl, rfl, _⟩ | ⟨rfl, rfl, _⟩ | ⟨rfl, rfl, _⟩
  · exact ⟨hb, hl, by omega⟩
  · exact ⟨fun x hx => hb x (rst_mem hx), by omega, by omega⟩
  · exact ⟨fun x hx => hb x (rst_mem (rst_mem hx)), by omega, by omega⟩
theorem KN.two {O : Option Cm} {R : List Nat} {k n : Nat} (h : KN O R k n) : n ≤ 2 := by
  rcases h with ⟨rfl, _⟩ | ⟨rfl, _⟩ | ⟨rfl, _⟩ | ⟨rfl, _⟩ <;> omega
theorem KN.none {O : Option Cm} {R RR : List Nat} {k n i : Nat} {a b : Int} (h : KN O R k n) (s : Stp R i RR a b) (hi : i < n) (hv : num (wrd RR) = Option.none) : O = Option.none := by
  rcases s with ⟨rfl, rfl, _⟩ | ⟨rfl, rfl, h1, _⟩ | ⟨rfl, rfl, _⟩
  · have ht : Km.two RR = Option.none := two_none1 hv
    rcases h with ⟨rfl, _⟩ | ⟨rfl, _, rfl⟩ | ⟨rfl, _, rfl⟩ | ⟨rfl, _, rfl⟩
    · omega
    · unfold cnt; rw [hv]; rfl
    · exact rng_none ht
    · exact wri_none ht
  · have ht : Km.two R = Option.none := two_none2 h1 hv
    rcases h with ⟨rfl, _⟩ | ⟨rfl, _, rfl⟩ | ⟨rfl, _, rfl⟩ | ⟨rfl, _, rfl⟩
    · omega
    · omega
    · exact rng_none ht
    · exact wri_none ht
  · have := h.two; omega
theorem Stp.next {R RR : List Nat} {i : Nat} {a b v : Int} (s : Stp R i RR a b) (hv : num (wrd RR) = some v) (hi : i < 2) : (i = 0 → Stp R 1 (rst RR) v b) ∧ (¬ i = 0 → Stp R (i + 1) (rst RR) a v) := by
  rcases s with ⟨rfl, rfl, rfl, rfl⟩ | ⟨rfl, rfl, h1, rfl⟩ | ⟨rfl, rfl, _⟩
  · exact ⟨fun _ => Or.inr (Or.inl ⟨rfl, rfl, hv, rfl⟩), fun h => absurd rfl h⟩
  · exact ⟨fun h => (by cases h), fun _ => Or.inr (Or.inr ⟨rfl, rfl, h1, hv⟩)⟩
  · omega
theorem KN.yes {O : Option Cm} {R RR : List Nat} {k n : Nat} {a b : Int} (h : KN O R k n) (s : Stp R n RR a b) (hk : ¬ k = 119) : O = if ends RR then some ⟨k, a, b, []⟩ else Option.none := by
  rcases h with ⟨rfl, _, rfl⟩ | ⟨rfl, _, rfl⟩ | ⟨rfl, _, rfl⟩ | ⟨rfl, h, rfl⟩
  · rcases s with ⟨_, rfl, rfl, rfl⟩ | ⟨h, _⟩ | ⟨h, _⟩
    · rfl
    · omega
    · omega
  · rcases s with ⟨h, _⟩ | ⟨_, rfl, h1, rfl⟩ | ⟨h, _⟩
    · omega
    · unfold cnt; rw [h1]; rfl
    · omega
  · rcases s with ⟨h, _⟩ | ⟨h, _⟩ | ⟨_, rfl, h1, h2⟩
    · omega
    · omega
    · exact rng_yes (two_yes h1 h2)
  · exact absurd h hk

theorem KN.wri {O : Option Cm} {R RR : List Nat} {n : Nat} {a b : Int} (h : KN O R 119 n) (s : Stp R n RR a b) : ∃ Z, RR = rst Z ∧ n = 2 ∧ O = (Qm.read (skp RR)).bind fun y => if ends ((skp RR).drop y.2) then some ⟨119, a, b, y.1⟩ else Option.none := by
  rcases h with ⟨_, h, _⟩ | ⟨_, h, _⟩ | ⟨_, h, _⟩ | ⟨rfl, _, rfl⟩
  · exact absurd rfl h
  · exact absurd rfl h
  · exact absurd rfl h
  · rcases s with ⟨h, _⟩ | ⟨h, _⟩ | ⟨_, rfl, h1, h2⟩
    · omega
    · omega
    · exact ⟨_, rfl, rfl, wri_yes (two_yes h1 h2)⟩
/-- What stands behind a word begins with what ends it. -/
theorem rst_head (Z : List Nat) : rst Z = [] ∨ we ((rst Z).headD 0) = true := by
  cases h : rst Z with
  | nil => exact Or.inl rfl
  | cons c r =>
    right
    have := List.head?_dropWhile_not (fun c => !we c) (skp Z)
    unfold rst at h
    rw [h] at this
    simpa using this

/-- A text that is read behind a word has a blank ahead. -/
theorem write_pos {RR : List Nat} {p : Nat} {y : List Nat × Nat} (hh : RR = [] ∨ we (RR.headD 0) = true) (hs : skp RR = RR.drop p) (hr : Qm.read (skp RR) = some y) : p ≠ 0 := by
  rintro rfl
  rw [hs, List.drop_zero] at hr
  cases RR with
  | nil => cases hr
  | cons c r =>
    rcases hh with h | h
    · cases h
    · have hc : c = 34 := by
        simp only [Qm.read] at hr
        by_cases e : c = 34
        · exact e
        · rw [if_neg e] at hr; cases hr
      subst hc
      cases h

set_option maxHeartbeats 4000000 in
set_option maxRecDepth 100000 in
theorem rline_any (s : ByteArray) (hs : s.size ≤ 1000000000000) (w : World) : Calls Tryd.prog 25 #[.string s] w fun e w' => RSays (cmd (bs s)) e ∧ Keep (fun _ => False) w w' := by
  have hw := fun W => rword_any s (by omega) W
  have hl := rst_len (bs s)
  rw [bs_len] at hl
  have hsz : (str (rst (bs s))).size = (rst (bs s)).length := str_size _
  have hrb := rst_str s
  have hwb := wrd_str s
  have HC : Hid (cmd (bs s) = if wrd (bs s) = sRead then rng 114 (rst (bs s)) else if wrd (bs s) = sWrite then wri (rst (bs s)) else if wrd (bs s) = sTrim then rng 116 (rst (bs s))
    else if wrd (bs s) = sCut then cnt 99 (rst (bs s)) else if wrd (bs s) = sFail then cnt 102 (rst (bs s))
    else if wrd (bs s) = sMount then (if ends (rst (bs s)) then some ⟨109, -1, 0, []⟩ else cnt 109 (rst (bs s)))
    else if wrd (bs s) = sShow then (if ends (rst (bs s)) then some ⟨115, 0, 0, []⟩ else none)
    else if wrd (bs s) = sStat then (if ends (rst (bs s)) then some ⟨105, 0, 0, []⟩ else none) else none) := rfl
  generalize cmd (bs s) = O at *
  generalize wrd (bs s) = D at *
  generalize rst (bs s) = R at *
  generalize hY : str R = Y at *
  generalize hX : str D = X at *
  have HY : Hid (Y.size ≤ 1000000000000 ∧ bs Y = R ∧ bs X = D ∧ str D = X) := ⟨by omega, hrb, hwb, hX⟩
  clear hl hsz hrb hwb hX hY hs
  go_enter Tryd.func25, Tryd.ntmps25
  go_wp2_with fail
  refine (hw _).mono ?_
  rintro e w1 ⟨rfl, k1⟩
  clear hw
  go_upto_block 0 with fail
  have hL : Lw w (w1.alloc (.cells #[.int .u8 0, .int .i64 0, .int .i64 0, .string ⟨#[]⟩] 32)) w.heap.size w1.heap.size 0 0 0 ⟨#[]⟩ := by
    have hb : ∀ W : World, Blk (W.alloc (.cells #[.int .u8 0, .int .i64 0, .int .i64 0, .string ⟨#[]⟩] 32)) W.heap.size 4 (crow 0 0 0 ⟨#[]⟩) := fun W =>
      blk_new W
    have hk := k1.size
    simp only [World.size_alloc] at hk
    exact ⟨⟨_, _, _, _, ((hb w).keep k1 (fun e => e)).alloc _⟩, hb w1, by omega, ⟨Nat.le_refl _, by omega⟩, (((Keep.refl _ _).alloc _).trans k1).alloc _⟩
  generalize hw2 : w1.alloc (.cells #[.int .u8 0, .int .i64 0, .int .i64 0, .string ⟨#[]⟩] 32) = w2 at *
  generalize w.heap.size = r at *
  generalize w1.heap.size = q at *
  clear hw2 k1
  go_cut [7] from 23 to 50 (fun x wx => ∃ (k n : Nat), x = .int .i64 (n : Nat) ∧ Lw w wx r q (k : Nat) 0 0 ⟨#[]⟩ ∧ Hid (KN O R k n))
  case first =>
    obtain ⟨c0, c1, c2, c3⟩ := hL.cells
    obtain ⟨f0, f1, f2, f3⟩ := hL.free
    have HL : Hid (Lw w w2 r q 0 0 0 ⟨#[]⟩) := hL
    have hE := fun W => rempty_any Y (by have := HY.out.1; omega) W
    rw [HY.out.2.1] at hE
    clear hL
    by_cases h0 : D = sRead
    · have hX2 : X = ⟨#[114, 101, 97, 100]⟩ := by rw [← HY.out.2.2.2, h0]; rfl
      have HO := HC.out
      simp only [h0] at HO
      subst hX2
      have HQ : Hid (O = rng 114 R) := HO
      clear HC HO h0
      go_wp2_with fail
      go_meet
      exact ⟨114, 2, rfl, HL.out.setk 114, Or.inr (Or.inr (Or.inl ⟨rfl, by decide, HQ.out⟩))⟩
    have n0 := word_no (X := X) (l := sRead) (B := ⟨#[114, 101, 97, 100]⟩) rfl (by rw [HY.out.2.2.1]; exact h0) (by decide)
    rw [ByteArray.toList_eq ⟨#[114, 101, 97, 100]⟩] at n0
    by_cases h1 : D = sTrim
    · have hX2 : X = ⟨#[116, 114, 105, 109]⟩ := by rw [← HY.out.2.2.2, h1]; rfl
      have HO := HC.out
      simp only [h1] at HO
      subst hX2
      have HQ : Hid (O = rng 116 R) := HO
      clear HC HO h0 h1
      go_wp2_with fail
      go_meet
      exact ⟨116, 2, rfl, HL.out.setk 116, Or.inr (Or.inr (Or.inl ⟨rfl, by decide, HQ.out⟩))⟩
    have n1 := word_no (X := X) (l := sTrim) (B := ⟨#[116, 114, 105, 109]⟩) rfl (by rw [HY.out.2.2.1]; exact h1) (by decide)
    rw [ByteArray.toList_eq ⟨#[116, 114, 105, 109]⟩] at n1
    by_cases h2 : D = sWrite
    · have hX2 : X = ⟨#[119, 114, 105, 116, 101]⟩ := by rw [← HY.out.2.2.2, h2]; rfl
      have HO := HC.out
      simp only [h2] at HO
      subst hX2
      have HQ : Hid (O = wri R) := HO
      clear HC HO h0 h1 h2
      go_wp2_with fail
      go_meet
      exact ⟨119, 2, rfl, HL.out.setk 119, Or.inr (Or.inr (Or.inr ⟨rfl, rfl, HQ.out⟩))⟩
    have n2 := word_no (X := X) (l := sWrite) (B := ⟨#[119, 114, 105, 116, 101]⟩) rfl (by rw [HY.out.2.2.1]; exact h2) (by decide)
    rw [ByteArray.toList_eq ⟨#[119, 114, 105, 116, 101]⟩] at n2
    by_cases h3 : D = sCut
    · have hX2 : X = ⟨#[99, 117, 116]⟩ := by rw [← HY.out.2.2.2, h3]; rfl
      have HO := HC.out
      simp only [h3] at HO
      subst hX2
      have HQ : Hid (O = cnt 99 R) := HO
      clear HC HO h0 h1 h2 h3
      go_wp2_with fail
      go_meet
      exact ⟨99, 1, rfl, HL.out.setk 99, Or.inr (Or.inl ⟨rfl, by decide, HQ.out⟩)⟩
    have n3 := word_no (X := X) (l := sCut) (B := ⟨#[99, 117, 116]⟩) rfl (by rw [HY.out.2.2.1]; exact h3) (by decide)
    rw [ByteArray.toList_eq ⟨#[99, 117, 116]⟩] at n3
    by_cases h4 : D = sFail
    · have hX2 : X = ⟨#[102, 97, 105, 108]⟩ := by rw [← HY.out.2.2.2, h4]; rfl
      have HO := HC.out
      simp only [h4] at HO
      subst hX2
      have HQ : Hid (O = cnt 102 R) := HO
      clear HC HO h0 h1 h2 h3 h4
      go_wp2_with fail
      go_meet
      exact ⟨102, 1, rfl, HL.out.setk 102, Or.inr (Or.inl ⟨rfl, by decide, HQ.out⟩)⟩
    have n4 := word_no (X := X) (l := sFail) (B := ⟨#[102, 97, 105, 108]⟩) rfl (by rw [HY.out.2.2.1]; exact h4) (by decide)
    rw [ByteArray.toList_eq ⟨#[102, 97, 105, 108]⟩] at n4
    by_cases h5 : D = sMount
    · have hX2 : X = ⟨#[109, 111, 117, 110, 116]⟩ := by rw [← HY.out.2.2.2, h5]; rfl
      have HO := HC.out
      simp only [h5] at HO
      subst hX2
      have HO' : O = if ends R then some ⟨109, -1, 0, []⟩ else cnt 109 R := HO
      clear HC HO h0 h1 h2 h3 h4 h5
      generalize ends R = E at *
      cases E
      · have HQ : Hid (O = cnt 109 R) := HO'
        clear HO'
        go_wp2_with fail
        refine (hE _).mono ?_
        rintro e w3 ⟨rfl, k3⟩
        go_wp2_with fail
        go_meet
        exact ⟨109, 1, rfl, (HL.out.setk 109).more k3, Or.inr (Or.inl ⟨rfl, by decide, HQ.out⟩)⟩
      · have HQ : Hid (O = some ⟨109, -1, 0, []⟩) := HO'
        clear HO'
        go_wp2_with fail
        refine (hE _).mono ?_
        rintro e w3 ⟨rfl, k3⟩
        have H3 := (HL.out.setk 109).more k3
        obtain ⟨d0, d1, d2, d3⟩ := H3.cells
        obtain ⟨g0, g1, g2, g3⟩ := H3.free
        obtain ⟨x0, x1, x2, x3, rc0, rc1, rc2, rc3, rf0, rf1, rf2, rf3⟩ := (H3.seta (-1)).res
        obtain ⟨hz, hb⟩ := (H3.seta (-1)).put 109 (-1) 0 ⟨#[]⟩
        obtain ⟨e0, e1, e2, e3⟩ := (H3.seta (-1)).cells
        have HZ : Hid (_ ∧ _) := ⟨hz, hb⟩
        clear hz hb
        go_wp2_with fail
        refine bodyPost_ret (v := .tuple #[.agg #[.int .u8 109, .int .i64 (-1), .int .i64 0, .string ⟨#[]⟩], .bool true]) ?_ rfl ⟨⟨109, -1, 0, ⟨#[]⟩, by rw [HQ.out]; rfl, fun c hc => by rw [HQ.out] at hc; cases hc; exact ⟨rfl, rfl, rfl, rfl⟩⟩, HZ.out.1.kp⟩
        rw [results_cell_tmp rfl]
        simp [asAddr, Result.andThen, load_cmd HZ.out.2]
    have n5 := word_no (X := X) (l := sMount) (B := ⟨#[109, 111, 117, 110, 116]⟩) rfl (by rw [HY.out.2.2.1]; exact h5) (by decide)
    rw [ByteArray.toList_eq ⟨#[109, 111, 117, 110, 116]⟩] at n5
    by_cases h6 : D = sShow
    · have hX2 : X = ⟨#[115, 104, 111, 119]⟩ := by rw [← HY.out.2.2.2, h6]; rfl
      have HO := HC.out
      simp only [h6] at HO
      subst hX2
      have HQ : Hid (O = if ends R then some ⟨115, 0, 0, []⟩ else none) := HO
      clear HC HO h0 h1 h2 h3 h4 h5 h6
      go_wp2_with fail
      go_meet
      exact ⟨115, 0, rfl, HL.out.setk 115, Or.inl ⟨rfl, by decide, HQ.out⟩⟩
    have n6 := word_no (X := X) (l := sShow) (B := ⟨#[115, 104, 111, 119]⟩) rfl (by rw [HY.out.2.2.1]; exact h6) (by decide)
    rw [ByteArray.toList_eq ⟨#[115, 104, 111, 119]⟩] at n6
    by_cases h7 : D = sStat
    · have hX2 : X = ⟨#[115, 116, 97, 116]⟩ := by rw [← HY.out.2.2.2, h7]; rfl
      have HO := HC.out
      simp only [h7] at HO
      subst hX2
      have HQ : Hid (O = if ends R then some ⟨105, 0, 0, []⟩ else none) := HO
      clear HC HO h0 h1 h2 h3 h4 h5 h6 h7
      go_wp2_with fail
      go_meet
      exact ⟨105, 0, rfl, HL.out.setk 105, Or.inl ⟨rfl, by decide, HQ.out⟩⟩
    have n7 := word_no (X := X) (l := sStat) (B := ⟨#[115, 116, 97, 116]⟩) rfl (by rw [HY.out.2.2.1]; exact h7) (by decide)
    rw [ByteArray.toList_eq ⟨#[115, 116, 97, 116]⟩] at n7
    have HQ : Hid (O = none) := by
      show O = none
      rw [HC.out, if_neg h0, if_neg h2, if_neg h1, if_neg h3, if_neg h4, if_neg h5, if_neg h6, if_neg h7]
    clear HC h0 h1 h2 h3 h4 h5 h6 h7
    obtain ⟨x0, x1, x2, x3, rc0, rc1, rc2, rc3, rf0, rf1, rf2, rf3⟩ := HL.out.res
    obtain ⟨hz, hb⟩ := HL.out.put 0 0 0 ⟨#[]⟩
    have HZ : Hid (_ ∧ _) := ⟨hz, hb⟩
    clear hz hb
    go_wp2_with fail
    refine bodyPost_ret (v := .tuple #[.agg #[.int .u8 0, .int .i64 0, .int .i64 0, .string ⟨#[]⟩], .bool false]) ?_ rfl ⟨⟨0, 0, 0, ⟨#[]⟩, by rw [HQ.out]; rfl, fun c hc => by rw [HQ.out] at hc; cases hc⟩, HZ.out.1.kp⟩
    rw [results_cell_tmp rfl]
    simp [asAddr, Result.andThen, load_cmd HZ.out.2]
  case rest =>
    obtain ⟨k, n, rfl, hL2, hKN⟩ := hcut
    have HKN : Hid (KN O R k n) := hKN
    have HL2 : Hid (Lw w wc r q (k : Nat) 0 0 ⟨#[]⟩) := hL2
    clear hL hL2 hKN HC
    have hYR : Y = str R := by rw [← HY.out.2.1, str_bs]
    have HR : Hid ((∀ x ∈ R, x < 256) ∧ R.length ≤ 1000000000000) := by
      refine ⟨fun x hx => ?_, ?_⟩
      · rw [← HY.out.2.1] at hx; exact bs_byte Y x hx
      · rw [← HY.out.2.1, bs_len]; exact HY.out.1
    subst hYR
    clear HY
    go_wp2_with fail
    go_loopw [5, 8] (fun x y wr => ∃ (i : Nat) (RR : List Nat) (a b : Int), x = .string (str RR) ∧ y = .int .i64 (i : Nat) ∧ Lw w wr r q (k : Nat) a b ⟨#[]⟩ ∧ i ≤ n ∧ Hid (Stp R i RR a b)) (fun _ y _ => n - (intOf y).toNat)
    case atStart => exact ⟨0, R, 0, 0, rfl, rfl, HL2.out, by omega, Or.inl ⟨rfl, rfl, rfl, rfl⟩⟩
    case round =>
      obtain ⟨i, RR, a, b, rfl, rfl, hL3, hi, hSt⟩ := hrel
      have HSt : Hid (Stp R i RR a b) := hSt
      have hRR := Stp.ok HSt.out HR.out.1 HR.out.2
      have hn2 := KN.two HKN.out
      clear HL2 hSt
      by_cases hlt : i < n
      · have hbs : bs (str RR) = RR := bs_str hRR.1
        have hw := fun W => rword_any (str RR) (by rw [str_size]; omega) W
        rw [hbs] at hw
        have hnum := fun W => rnumber_any (str (wrd RR)) W
        rw [bs_str (fun x hx => hRR.1 x (wrd_mem hx))] at hnum
        have j1 : (i : Int) < n := by omega
        have j2 : IntKind.i64.wrap ((i : Int) + 1) = (i : Int) + 1 := by rw [IntKind.wrap_i64]; omega
        have H3 : Hid (Lw w wr r q (k : Nat) a b ⟨#[]⟩) := hL3
        clear hL3
        cases hV : num (wrd RR) with
        | none =>
          rw [hV] at hnum
          have HQ : Hid (O = none) := KN.none HKN.out HSt.out hlt hV
          clear hV hbs hRR hn2
          generalize str (wrd RR) = WW at *
          generalize str (rst RR) = ZZ at *
          generalize str RR = TT at *
          go_wp2_with fail
          refine (hw _).mono ?_
          rintro e w3 ⟨rfl, k3⟩
          go_wp2_with fail
          refine (hnum _).mono ?_
          rintro e w4 ⟨rfl, k4⟩
          have H4 := (H3.out.more k3).more k4
          obtain ⟨d0, d1, d2, d3⟩ := H4.cells
          obtain ⟨x0, x1, x2, x3, rc0, rc1, rc2, rc3, rf0, rf1, rf2, rf3⟩ := H4.res
          obtain ⟨hz, hb⟩ := H4.put (k : Nat) a b ⟨#[]⟩
          have HZ : Hid (_ ∧ _) := ⟨hz, hb⟩
          clear hz hb H4 hw hnum k3 k4
          go_wp2_with fail
          refine bodyPost_ret (v := .tuple #[.agg #[.int .u8 (k : Nat), .int .i64 a, .int .i64 b, .string ⟨#[]⟩], .bool false]) ?_ rfl ⟨⟨_, _, _, _, by rw [HQ.out]; rfl, fun c hc => by rw [HQ.out] at hc; cases hc⟩, HZ.out.1.kp⟩
          rw [results_cell_tmp rfl]
          simp [asAddr, Result.andThen, load_cmd HZ.out.2]
        | some v =>
          rw [hV] at hnum
          have HN := Stp.next HSt.out hV (by omega)
          clear hV hbs hRR hn2
          generalize str (wrd RR) = WW at *
          generalize hZZ : str (rst RR) = ZZ at *
          generalize str RR = TT at *
          have HZZ : Hid (str (rst RR) = ZZ) := hZZ
          clear hZZ
          by_cases hi0 : i = 0
          · subst hi0
            go_wp2_with fail
            refine (hw _).mono ?_
            rintro e w3 ⟨rfl, k3⟩
            go_wp2_with fail
            refine (hnum _).mono ?_
            rintro e w4 ⟨rfl, k4⟩
            have H4 := (H3.out.more k3).more k4
            obtain ⟨d0, d1, d2, d3⟩ := H4.cells
            obtain ⟨g0, g1, g2, g3⟩ := H4.free
            have HZ : Hid (Lw w (w4.setCell ⟨q, 1, none⟩ (.int .i64 v)) r q (k : Nat) v b ⟨#[]⟩) := H4.seta v
            clear H4 hw hnum k3 k4
            go_wp2_with fail
            go_roundw
            case rel => exact ⟨1, rst RR, v, b, by rw [HZZ.out], rfl, HZ.out, by omega, HN.1 (by first | rfl | trivial)⟩
            case measure => simp [intOf]; omega
          · have i0 : ¬ (i : Int) = 0 := by omega
            have i1 : ((i : Int) == 0) = false := by rw [beq_eq_false_iff_ne]; exact i0
            go_wp2_with fail
            refine (hw _).mono ?_
            rintro e w3 ⟨rfl, k3⟩
            go_wp2_with fail
            refine (hnum _).mono ?_
            rintro e w4 ⟨rfl, k4⟩
            have H4 := (H3.out.more k3).more k4
            obtain ⟨d0, d1, d2, d3⟩ := H4.cells
            obtain ⟨g0, g1, g2, g3⟩ := H4.free
            have HZ : Hid (Lw w (w4.setCell ⟨q, 2, none⟩ (.int .i64 v)) r q (k : Nat) a v ⟨#[]⟩) := H4.setb v
            clear H4 hw hnum k3 k4
            go_wp2_with fail
            go_roundw
            case rel => exact ⟨i + 1, rst RR, a, v, by rw [HZZ.out], by rw [Int.natCast_add]; rfl, HZ.out, by omega, HN.2 hi0⟩
            case measure => simp [intOf]; omega
      · obtain rfl : i = n := by omega
        have j1 : ¬ (i : Int) < i := by omega
        obtain ⟨d0, d1, d2, d3⟩ := hL3.cells
        have H3 : Hid (Lw w wr r q (k : Nat) a b ⟨#[]⟩) := hL3
        clear hL3 hlt hi
        by_cases h119 : k = 119
        · subst h119
          have H3' : Hid (Lw w wr r q 119 a b ⟨#[]⟩) := H3.out
          clear H3 d0
          have H3 := H3'
          clear H3'
          have d0 := H3.out.cells.1
          obtain ⟨Z, hZ, hn, HQ0⟩ := KN.wri HKN.out HSt.out
          have hhd := rst_head Z
          rw [← hZ] at hhd
          have hbs : bs (str RR) = RR := bs_str hRR.1
          have hss : (str RR).size = RR.length := str_size RR
          have HQ : Hid (O = (Qm.read (skp RR)).bind fun y => if ends ((skp RR).drop y.2) then some ⟨119, a, b, y.1⟩ else none) := HQ0
          have HB : Hid ((∀ x ∈ RR, x < 256) ∧ RR.length ≤ 1000000000000 ∧ (RR = [] ∨ we (RR.headD 0) = true)) := ⟨hRR.1, hRR.2.1, hhd⟩
          clear hZ hn HQ0 hhd hRR hn2 Z
          generalize hTT : str RR = TT at *
          subst hbs
          clear hTT HSt HKN hss
          go_wp2_with fail
          go_loopw [13] (fun x wx => ∃ p : Nat, x = .int .i64 (p : Nat) ∧ wx = wr ∧ p ≤ TT.size ∧ skp (bs TT) = skp ((bs TT).drop p) ∧ (p = 0 ∨ ∃ c l, bs TT = c :: l ∧ bl c = true)) (fun x _ => TT.size - (intOf x).toNat)
          case atStart => exact ⟨0, rfl, rfl, by omega, by simp, Or.inl rfl⟩
          case round =>
            obtain ⟨p, rfl, rfl, hp, h1, hp0⟩ := hrel
            have hTl := HB.out.2.1
            rw [bs_len] at hTl
            by_cases hpl : p < TT.size
            · have hcons := bs_cons TT hpl
              have j1 : (p : Int) < TT.size := by omega
              have j2 : IntKind.i64.wrap ((p : Int) + 1) = (p : Int) + 1 := by rw [IntKind.wrap_i64]; omega
              have hb := fun W => rblank_any ((TT[p]'hpl).toNat) W
              by_cases hbl : bl ((TT[p]'hpl).toNat) = true
              · have HN : Hid (skp (bs TT) = skp ((bs TT).drop (p + 1)) ∧ (p + 1 = 0 ∨ ∃ c l, bs TT = c :: l ∧ bl c = true)) := by
                  refine ⟨by rw [h1, hcons, skp_cons_bl hbl], Or.inr ?_⟩
                  rcases hp0 with rfl | h
                  · rw [List.drop_zero] at hcons
                    exact ⟨_, _, hcons, hbl⟩
                  · exact h
                rw [hbl] at hb
                clear h1 hcons hbl hp0
                go_wp2_with fail
                refine (hb _).mono ?_
                rintro e w' ⟨rfl, rfl⟩
                go_wp2_with fail
                go_roundw
                case rel => exact ⟨p + 1, by rw [Int.natCast_add]; rfl, by first | rfl | trivial, by omega, HN.out.1, HN.out.2⟩
                case measure => simp [intOf]; omega
              · have hbl' : bl ((TT[p]'hpl).toNat) = false := by simpa using hbl
                have HS2 : Hid (skp (bs TT) = (bs TT).drop p) := by show _ = _; rw [h1, hcons, skp_cons_no hbl']
                rw [hbl'] at hb
                clear h1 hcons hbl hbl' j2 hp0
                go_wp2_with fail
                refine (hb _).mono ?_
                rintro e w' ⟨rfl, rfl⟩
                clear hb
                by_cases hrd : ∃ x m, Qm.read (skp (bs TT)) = some (x, m)
                · obtain ⟨x, m, hrd⟩ := hrd
                  obtain ⟨hm, ht⟩ := read_some hrd
                  have hm2 : m ≤ TT.size - p := by
                    have e1 := congrArg List.length ht
                    rw [List.length_append, HS2.out, List.length_drop, bs_len, List.length_drop, List.length_drop, bs_len] at e1
                    omega
                  have hpz : p ≠ 0 := write_pos HB.out.2.2 HS2.out hrd
                  have HQ2 : Hid (O = if ends ((bs TT).drop (p + m)) then some ⟨119, a, b, x⟩ else none) := by
                    show _ = _
                    rw [HQ.out, hrd, HS2.out]
                    simp only [Option.bind_some, List.drop_drop]
                  have hxb := read_bytes (fun y hy => bs_byte TT y (by rw [HS2.out] at hy; exact List.mem_of_mem_drop hy)) hrd
                  have hrr := fun W => rread_any (TT.extract p TT.size) (by rw [extract_tail, str_size, List.length_drop, bs_len]; omega) W
                  rw [bs_drop, ← HS2.out, hrd] at hrr
                  have hE := fun W => rempty_any (TT.extract (p + m) TT.size) (by rw [extract_tail, str_size, List.length_drop, bs_len]; omega) W
                  rw [bs_drop] at hE
                  have z0 : ¬ (p : Int) = 0 := by omega
                  have z1 : ((p : Int) == 0) = false := by rw [beq_eq_false_iff_ne]; exact z0
                  have z2 : (p : Int) ≤ TT.size := by omega
                  have z3 : IntKind.i64.wrap ((p : Int) + m) = ((p + m : Nat) : Int) := by rw [IntKind.wrap_i64]; omega
                  have z4 : ((p + m : Nat) : Int) ≤ TT.size := by omega
                  clear HQ HB hrd hm ht hm2 hpz
                  generalize ends ((bs TT).drop (p + m)) = E at *
                  go_wp2_with fail
                  refine (hrr _).mono ?_
                  rintro e w5 ⟨h, k5⟩
                  rcases h with ⟨x', m', h, rfl⟩ | ⟨h, rfl⟩
                  rotate_left
                  · cases h
                  injection h with h
                  injection h with h1 h2
                  subst h1 h2
                  have H5 := H3.out.more k5
                  have HD : Hid (Lw w (w5.setCell ⟨q, 3, none⟩ (.string (str x))).drew r q 119 a b (str x)) := (H5.setd (str x)).more ((Keep.refl _ _).drew)
                  obtain ⟨d0, d1, d2, d3⟩ := H5.cells
                  obtain ⟨g0, g1, g2, g3⟩ := H5.free
                  have HX : Hid (str x = str x) := rfl
                  clear H5 k5 hrr H3
                  generalize hXX : str x = XX at *
                  have HXX : Hid (str x = XX) := hXX
                  clear hXX HX hxb
                  go_upto_region 45 with fail
                  have q0 := HD.out.cells
                  go_region_held3 (fun W => W.cell? ⟨q, 0, none⟩ = some (.int .u8 119) ∧ W.cell? ⟨q, 1, none⟩ = some (.int .i64 a) ∧ W.cell? ⟨q, 2, none⟩ = some (.int .i64 b) ∧ W.cell? ⟨q, 3, none⟩ = some (.string XX)) (first | exact q0 | exact q4 | exact (H4.put 119 a b XX).1.cells | go_keep) ((go_at_call 36; refine (hE _).mono ?_; rintro e w3 ⟨rfl, k3⟩; have H4 := HD.out.more k3; have q4 := H4.cells; obtain ⟨x0, x1, x2, x3, rc0, rc1, rc2, rc3, rf0, rf1, rf2, rf3⟩ := H4.res))
                  all_goals (
                    obtain ⟨hz, hb⟩ := H4.put 119 a b XX
                    have HZ : Hid (_ ∧ _) := ⟨hz, hb⟩
                    clear hz hb
                    go_wp2_with fail
                    refine bodyPost_ret (v := .tuple #[.agg #[.int .u8 119, .int .i64 a, .int .i64 b, .string XX], .bool E]) ?_ rfl ⟨⟨_, _, _, _, by rw [HQ2.out]; cases E <;> rfl, fun c hc => by rw [HQ2.out] at hc; cases E <;> cases hc; exact ⟨rfl, rfl, rfl, HXX.out.symm⟩⟩, HZ.out.1.kp⟩
                    rw [results_cell_tmp rfl]
                    simp [asAddr, Result.andThen, load_cmd HZ.out.2])
                · have hrd0 : Qm.read (skp (bs TT)) = none := by
                    cases e : Qm.read (skp (bs TT)) with
                    | none => rfl
                    | some y => exact absurd ⟨y.1, y.2, e⟩ hrd
                  clear hrd
                  have HQ2 : Hid (O = none) := by
                    show _ = _
                    rw [HQ.out, hrd0]
                    rfl
                  have hrr := fun W => rread_any (TT.extract p TT.size) (by rw [extract_tail, str_size, List.length_drop, bs_len]; omega) W
                  rw [bs_drop, ← HS2.out, hrd0] at hrr
                  have z2 : (p : Int) ≤ TT.size := by omega
                  clear HQ HB hrd0 HS2
                  go_wp2_with fail
                  refine (hrr _).mono ?_
                  rintro e w5 ⟨h, k5⟩
                  rcases h with ⟨x', m', h, rfl⟩ | ⟨h, rfl⟩
                  · cases h
                  have H5 := H3.out.more k5
                  obtain ⟨d0, d1, d2, d3⟩ := H5.cells
                  obtain ⟨x0, x1, x2, x3, rc0, rc1, rc2, rc3, rf0, rf1, rf2, rf3⟩ := H5.res
                  obtain ⟨hz, hb⟩ := H5.put 119 a b ⟨#[]⟩
                  have HZ : Hid (_ ∧ _) := ⟨hz, hb⟩
                  clear hz hb H5 hrr k5 h
                  go_wp2_with fail
                  refine bodyPost_ret (v := .tuple #[.agg #[.int .u8 119, .int .i64 a, .int .i64 b, .string ⟨#[]⟩], .bool false]) ?_ rfl ⟨⟨_, _, _, _, by rw [HQ2.out]; rfl, fun c hc => by rw [HQ2.out] at hc; cases hc⟩, HZ.out.1.kp⟩
                  rw [results_cell_tmp rfl]
                  simp [asAddr, Result.andThen, load_cmd HZ.out.2]
            · obtain rfl : p = TT.size := by omega
              have HS2 : Hid (skp (bs TT) = (bs TT).drop TT.size) := by show _ = _; rw [h1, drop_end hpl]; rfl
              have hrd0 : Qm.read (skp (bs TT)) = none := by rw [HS2.out, drop_end hpl]; rfl
              have j1 : ¬ (TT.size : Int) < TT.size := by omega
              clear h1 hp0 hp hpl
              have HQ2 : Hid (O = none) := by
                show _ = _
                rw [HQ.out, hrd0]
                rfl
              have hrr := fun W => rread_any ByteArray.empty (by decide) W
              rw [show Qm.read (bs ByteArray.empty) = none from rfl] at hrr
              have z2 : (TT.size : Int) ≤ TT.size := by omega
              clear HQ HB hrd0 HS2
              go_wp2_with fail
              refine (hrr _).mono ?_
              rintro e w5 ⟨h, k5⟩
              rcases h with ⟨x', m', h, rfl⟩ | ⟨h, rfl⟩
              · cases h
              have H5 := H3.out.more k5
              obtain ⟨d0, d1, d2, d3⟩ := H5.cells
              obtain ⟨x0, x1, x2, x3, rc0, rc1, rc2, rc3, rf0, rf1, rf2, rf3⟩ := H5.res
              obtain ⟨hz, hb⟩ := H5.put 119 a b ⟨#[]⟩
              have HZ : Hid (_ ∧ _) := ⟨hz, hb⟩
              clear hz hb H5 hrr k5 h
              go_wp2_with fail
              refine bodyPost_ret (v := .tuple #[.agg #[.int .u8 119, .int .i64 a, .int .i64 b, .string ⟨#[]⟩], .bool false]) ?_ rfl ⟨⟨_, _, _, _, by rw [HQ2.out]; rfl, fun c hc => by rw [HQ2.out] at hc; cases hc⟩, HZ.out.1.kp⟩
              rw [results_cell_tmp rfl]
              simp [asAddr, Result.andThen, load_cmd HZ.out.2]
        · have HQ : Hid (O = if ends RR then some ⟨k, a, b, []⟩ else none) := KN.yes HKN.out HSt.out h119
          have k0 : ¬ (k : Int) = 119 := by omega
          have k1 : ((k : Int) == 119) = false := by rw [beq_eq_false_iff_ne]; exact k0
          have hbs : bs (str RR) = RR := bs_str hRR.1
          have hE := fun W => rempty_any (str RR) (by rw [str_size]; omega) W
          rw [hbs] at hE
          clear hbs hRR hn2 h119
          generalize ends RR = E at *
          generalize str RR = TT at *
          have HD : Hid (Lw w wr.drew r q (k : Nat) a b ⟨#[]⟩) := H3.out.more ((Keep.refl _ _).drew)
          have q0 := HD.out.cells
          go_wp2_with fail
          go_region_held3 (fun W => W.cell? ⟨q, 0, none⟩ = some (.int .u8 (k : Nat)) ∧ W.cell? ⟨q, 1, none⟩ = some (.int .i64 a) ∧ W.cell? ⟨q, 2, none⟩ = some (.int .i64 b) ∧ W.cell? ⟨q, 3, none⟩ = some (.string ⟨#[]⟩)) (first | exact q0 | exact q4 | exact (H4.put (k : Nat) a b ⟨#[]⟩).1.cells | go_keep) ((go_at_call 36; refine (hE _).mono ?_; rintro e w3 ⟨rfl, k3⟩; have H4 := HD.out.more k3; have q4 := H4.cells; obtain ⟨x0, x1, x2, x3, rc0, rc1, rc2, rc3, rf0, rf1, rf2, rf3⟩ := H4.res))
          all_goals (
            obtain ⟨hz, hb⟩ := H4.put (k : Nat) a b ⟨#[]⟩
            have HZ : Hid (_ ∧ _) := ⟨hz, hb⟩
            clear hz hb
            go_wp2_with fail
            refine bodyPost_ret (v := .tuple #[.agg #[.int .u8 (k : Nat), .int .i64 a, .int .i64 b, .string ⟨#[]⟩], .bool E]) ?_ rfl ⟨⟨_, _, _, _, by rw [HQ.out]; cases E <;> rfl, fun c hc => by rw [HQ.out] at hc; cases E <;> cases hc; exact ⟨rfl, rfl, rfl, rfl⟩⟩, HZ.out.1.kp⟩
            rw [results_cell_tmp rfl]
            simp [asAddr, Result.andThen, load_cmd HZ.out.2])
end Tg
end Go.Proofs.YtgilagmgepogbaaDoor
