/-
  The document's tale of two blocks holds: 'awake' answers true over any memory, and leaves it.
-/
import Derived.Test.YtjafjofonckaaaaWalkF
namespace Go.Proofs.Ytjafjofonckaaaa
open Go.ChangeShapes Go.WideShapes Go.ChangeAt Go.RowKit
namespace Nd

/-- A flash that was made since w, and nothing of w has turned. -/
structure Fs (w : World) (p c k : Nat) (s : Fl) (wr : World) : Prop where
  mem : Mem wr p c k s
  keep : Keep (fun _ => False) w wr
  p : w.heap.size ≤ p
  c : w.heap.size ≤ c
  k : w.heap.size ≤ k

theorem Fs.own {w wr w' : World} {p c k : Nat} {s t : Fl} (F : Fs w p c k s wr) (m : Mem w' p c k t) (h : Keep (Own p c k) wr w') : Fs w p c k t w' :=
  ⟨m, F.keep.next h (fun x hx e => by have := F.p; have := F.c; have := F.k; rcases e with rfl | rfl | rfl <;> omega), F.p, F.c, F.k⟩
theorem Fs.aside {w wr w' : World} {p c k : Nat} {s : Fl} (F : Fs w p c k s wr) (h : Keep (fun _ => False) wr w') : Fs w p c k s w' :=
  ⟨F.mem.keep h (fun e => e) (fun e => e) (fun e => e), F.keep.trans h, F.p, F.c, F.k⟩
theorem Fs.lt {w wr : World} {p c k : Nat} {s : Fl} (F : Fs w p c k s wr) (b1 : 1 ≤ s.B) (p1 : 1 ≤ s.P) : p < wr.heap.size ∧ c < wr.heap.size ∧ k < wr.heap.size :=
  ⟨F.mem.top.lt (by omega), F.mem.cel.lt (Nat.mul_pos (Nat.mul_pos b1 p1) (by omega)), F.mem.blk.lt (by omega)⟩

/-- A page of bytes 7. -/
def sev : Nat → Int := fun _ => 7
theorem sev_byte : ∀ i, 0 ≤ sev i ∧ sev i ≤ 255 := fun _ => by unfold sev; omega

def a0 : Fl := Fl.new 2 4
def a1 : Fl := (a0.program 0 0 sev).2
def a2 : Fl := a1.setCut 3
def a3 : Fl := (a2.program 0 1 sev).2
def a4 : Fl := a3.turnOn
def a5 : Fl := a4.setFail 0
def a6 : Fl := (a5.program 0 2 sev).2
def a7 : Fl := (a6.erase 1).2
def a8 : Fl := a7.readOne.readOne.readOne

theorem ok0 : a0.Ok 0 := Fl.Ok.new (by decide) (by decide) (by decide) (by decide) 0
theorem ok1 : a1.Ok 1 := ok0.program (j := 0) (by decide) sev_byte
theorem ok2 : a2.Ok 1 := ok1.setCut (by omega)
theorem ok3 : a3.Ok 2 := ok2.program (j := 1) (by decide +kernel) sev_byte
theorem ok4 : a4.Ok 2 := ok3.turnOn
theorem ok5 : a5.Ok 2 := ok4.setFail (by omega)
theorem ok6 : a6.Ok 3 := ok5.program (j := 2) (by decide +kernel) sev_byte
theorem ok7 : a7.Ok 4 := ok6.erase 1

theorem r0 : a0.program 0 1 sev = (8, a0) := by
  unfold Fl.program
  rw [if_neg (by decide), if_neg (by decide), if_pos (by decide)]
theorem r1 : (a0.program 0 0 sev).1 = 0 := by decide +kernel
theorem r3 : (a2.program 0 1 sev).1 = 7 := by decide +kernel
theorem r6 : (a5.program 0 2 sev).1 = 6 := by decide +kernel
theorem r7 : (a6.erase 1).1 = 0 := by decide +kernel
theorem o3 : a3.on = false := by decide +kernel
theorem o7 : a7.on = true := by decide +kernel
theorem n4 : a4.next 0 = 2 := by decide +kernel
theorem d6 : a6.bad 0 = true := by decide +kernel
theorem g7 : a7.progs = 3 ∧ a7.erases = 1 := by decide +kernel
theorem c70 : ∀ i, i < 68 → a7.cell (0 * 68 + i) = if i < 68 then 7 else 255 := by decide +kernel
theorem c71 : ∀ i, i < 68 → a7.cell (1 * 68 + i) = if i < 12 then 7 else 255 := by decide +kernel
theorem c72 : ∀ i, i < 68 → a7.cell (2 * 68 + i) = if i < 16 then 7 else 255 := by decide +kernel
theorem Fl.readOne_on (s : Fl) : s.readOne.on = s.on := rfl
theorem Fl.readOne_cell (s : Fl) : s.readOne.cell = s.cell := rfl
theorem o71 : a7.readOne.on = true := by rw [Fl.readOne_on]; exact o7
theorem o72 : a7.readOne.readOne.on = true := by rw [Fl.readOne_on]; exact o71
theorem c71' : ∀ i, i < 68 → a7.readOne.cell (1 * 68 + i) = if i < 12 then 7 else 255 := by rw [Fl.readOne_cell]; exact c71
theorem c72' : ∀ i, i < 68 → a7.readOne.readOne.cell (2 * 68 + i) = if i < 16 then 7 else 255 := by rw [Fl.readOne_cell, Fl.readOne_cell]; exact c72
theorem z71 : 1 < a7.readOne.B * a7.readOne.P := by decide +kernel
theorem z72 : 2 < a7.readOne.readOne.B * a7.readOne.readOne.P := by decide +kernel

/-- A page of one byte is made, and a page is programmed with it. -/
theorem prog_page {w wr : World} {p c k N : Nat} {s t : Fl} {d : Nat → Int} (F : Fs w p c k s wr) (ok : s.Ok N) (hN : N ≤ 1000000) {b j pg r g : Nat} (hb : b < s.B) (hj : j < s.P) (hpg : pg = b * s.P + j) (hd : ∀ i, 0 ≤ d i ∧ d i ≤ 255)
    (hr : Blk wr g 68 (fun i => .int .u8 (d i))) (hg : ¬ Own p c k g) (h1 : (s.program b j d).1 = r) (h2 : (s.program b j d).2 = t) :
    Calls Try.prog 10 #[.pointer (some ⟨p, 0, none⟩), .int .i64 pg, .slice (some ⟨g, 0, none⟩) 68 68] wr fun e w' => e = .returned (.int .i64 r) ∧ Fs w p c k t w' := by
  refine (program_any F.mem ok hN hb hj hpg hd hr hg (Nat.le_refl _) (by omega)).mono ?_
  rintro e w' ⟨rfl, hm, hk⟩
  subst h1 h2
  exact ⟨rfl, F.own hm hk⟩

theorem new_page {w wr : World} {p c k N : Nat} {s : Fl} (F : Fs w p c k s wr) (ok : s.Ok N) (v : Int) :
    Calls Try.prog 11 #[.int .u8 v] wr fun e w' => e = .returned (.slice (some ⟨wr.heap.size, 0, none⟩) 68 68) ∧ Fs w p c k s w' ∧ Blk w' wr.heap.size 68 (fun _ => .int .u8 v) ∧ ¬ Own p c k wr.heap.size := by
  obtain ⟨l1, l2, l3⟩ := F.lt ok.b1 ok.p1
  refine (page_any v).mono ?_
  rintro e w' ⟨rfl, hb, hk⟩
  exact ⟨rfl, F.aside hk, hb, fun e => by rcases e with e | e | e <;> omega⟩

set_option maxHeartbeats 1000000 in
theorem awake_any (w : World) : Calls Try.prog 8 #[] w fun e w' => e = .returned (.bool true) ∧ Keep (fun _ => False) w w' := by
  have N0 := new_any (w := w) (B := 2) (P := 4) (by omega) (by omega) (by omega) (by omega)
  go_enter Try.func8, Try.ntmps8
  go_wp2_with fail
  refine N0.mono ?_
  rintro e w0 ⟨p, c, k, rfl, m0, hp, hc, hk, K0⟩
  have F0 : Fs w p c k a0 w0 := ⟨m0, K0, hp, hc, hk⟩
  clear N0 m0 K0 hp hc hk
  go_wp2_with fail
  refine (new_page F0 ok0 7).mono ?_
  rintro e w1 ⟨rfl, F1, hb1, ho1⟩
  go_wp2_with fail
  refine (prog_page F1 ok0 (by omega) (b := 0) (j := 1) (pg := 1) (r := 8) (t := a0) (by decide) (by decide) rfl sev_byte hb1 ho1 (by rw [r0]) (by rw [r0])).mono ?_
  rintro e w2 ⟨rfl, F2⟩
  clear F0 F1 hb1 ho1
  go_wp2_with fail
  refine (new_page F2 ok0 7).mono ?_
  rintro e w3 ⟨rfl, F3, hb3, ho3⟩
  go_wp2_with fail
  refine (prog_page F3 ok0 (by omega) (b := 0) (j := 0) (pg := 0) (r := 0) (t := a1) (by decide) (by decide) rfl sev_byte hb3 ho3 r1 rfl).mono ?_
  rintro e w4 ⟨rfl, F4⟩
  clear F2 F3 hb3 ho3
  go_wp2_with fail
  refine (cut_any F4.mem 3).mono ?_
  rintro e w5 ⟨rfl, m5, k5⟩
  have F5 : Fs w p c k a2 w5 := F4.own m5 k5
  clear F4 m5 k5
  go_wp2_with fail
  refine (new_page F5 ok2 7).mono ?_
  rintro e w6 ⟨rfl, F6, hb6, ho6⟩
  go_wp2_with fail
  refine (prog_page F6 ok2 (by omega) (b := 0) (j := 1) (pg := 1) (r := 7) (t := a3) (by decide +kernel) (by decide +kernel) (by decide +kernel) sev_byte hb6 ho6 r3 rfl).mono ?_
  rintro e w7 ⟨rfl, F7⟩
  clear F5 F6 hb6 ho6
  have hpw := power_any F7.mem
  rw [o3] at hpw
  go_wp2_with fail
  refine hpw.mono ?_
  rintro e w8 ⟨rfl, rfl⟩
  go_wp2_with fail
  refine (read_off F7.mem ok3 (pg := 0) (by decide +kernel) o3).mono ?_
  rintro e w9 ⟨rfl, m9, k9⟩
  have F9 := F7.aside k9
  clear F7 m9 k9 hpw
  go_wp2_with fail
  refine (on_any F9.mem).mono ?_
  rintro e w10 ⟨rfl, m10, k10⟩
  have F10 : Fs w p c k a4 w10 := F9.own m10 k10
  clear F9 m10 k10
  have hnx := next_any F10.mem (b := 0) (by decide +kernel)
  rw [n4] at hnx
  go_wp2_with fail
  refine hnx.mono ?_
  rintro e w11 ⟨rfl, rfl⟩
  go_wp2_with fail
  refine (fail_any F10.mem 0).mono ?_
  rintro e w12 ⟨rfl, m12, k12⟩
  have F12 : Fs w p c k a5 w12 := F10.own m12 k12
  clear F10 m12 k12 hnx
  go_wp2_with fail
  refine (new_page F12 ok5 7).mono ?_
  rintro e w13 ⟨rfl, F13, hb13, ho13⟩
  go_wp2_with fail
  refine (prog_page F13 ok5 (by omega) (b := 0) (j := 2) (pg := 2) (r := 6) (t := a6) (by decide +kernel) (by decide +kernel) (by decide +kernel) sev_byte hb13 ho13 r6 rfl).mono ?_
  rintro e w14 ⟨rfl, F14⟩
  clear F12 F13 hb13 ho13
  have hbd := bad_any F14.mem (b := 0) (by decide +kernel)
  rw [d6] at hbd
  go_wp2_with fail
  refine hbd.mono ?_
  rintro e w15 ⟨rfl, rfl⟩
  go_wp2_with fail
  refine (erase_any F14.mem ok6 (by omega) (b := 1) (by decide +kernel)).mono ?_
  rintro e w16 ⟨rfl, m16, k16⟩
  have F16 : Fs w p c k a7 w16 := F14.own m16 k16
  rw [r7]
  clear F14 m16 k16 hbd
  go_wp2_with fail
  have hst := stat_any F16.mem
  rw [g7.1, g7.2] at hst
  refine hst.mono ?_
  rintro e w17 ⟨rfl, m17, k17⟩
  have F17 := F16.aside k17
  clear F16 m17 k17 hst
  obtain ⟨l1, l2, l3⟩ := F17.lt (by decide +kernel) (by decide +kernel)
  have F18 := F17.aside ((Keep.refl _ _).alloc (.cells #[.int .i64 (a7.reads : Int), .int .i64 ((3 : Nat) : Int), .int .i64 ((1 : Nat) : Int)] 55))
  have B18 : Blk (w17.alloc (.cells #[.int .i64 (a7.reads : Int), .int .i64 ((3 : Nat) : Int), .int .i64 ((1 : Nat) : Int)] 55)) w17.heap.size 3 (fun i => #[Value.int .i64 (a7.reads : Int), .int .i64 ((3 : Nat) : Int), .int .i64 ((1 : Nat) : Int)].getD i undef) :=
    blk_alloc _ _ _ _ _ rfl (fun i hi => by have : i = 0 ∨ i = 1 ∨ i = 2 := by omega
                                            rcases this with rfl | rfl | rfl <;> rfl)
  have hno : ¬ Own p c k w17.heap.size := fun e => by rcases e with e | e | e <;> omega
  rw [show ((3 : Nat) : Int) = 3 from rfl, show ((1 : Nat) : Int) = 1 from rfl] at F18 B18
  have hpw := power_any F18.mem
  rw [o7] at hpw
  clear F17 l1 l2 l3
  go_wp2_with fail
  refine hpw.mono ?_
  rintro e w19 ⟨rfl, rfl⟩
  go_wp2_with fail
  refine (sevens_any F18.mem ok7 (by omega) (pg := 0) (n := 68) (by decide +kernel) o7 (by omega) c70).mono ?_
  rintro e w20 ⟨rfl, m20, k20⟩
  have F20 : Fs w p c k a7.readOne w20 := F18.own m20 k20
  have B20 := B18.keep k20 hno
  clear F18 B18 m20 k20 hpw
  go_wp2_with fail
  refine (sevens_any F20.mem ok7.readOne (by omega) (pg := 1) (n := 12) z71 o71 (by omega) c71').mono ?_
  rintro e w21 ⟨rfl, m21, k21⟩
  have F21 : Fs w p c k a7.readOne.readOne w21 := F20.own m21 k21
  have B21 := B20.keep k21 hno
  clear F20 B20 m21 k21
  go_wp2_with fail
  refine (sevens_any F21.mem ok7.readOne.readOne (by omega) (pg := 2) (n := 16) z72 o72 (by omega) c72').mono ?_
  rintro e w22 ⟨rfl, m22, k22⟩
  have F22 : Fs w p c k a7.readOne.readOne.readOne w22 := F21.own m22 k22
  have B22 := B21.keep k22 hno
  clear F21 B21 m22 k22
  have s1 : w22.cell? ⟨w17.heap.size, 1, none⟩ = some (.int .i64 3) := (B22 1 (by omega)).1
  have s2 : w22.cell? ⟨w17.heap.size, 2, none⟩ = some (.int .i64 1) := (B22 2 (by omega)).1
  go_wp2_with fail
  refine (image_any F22.mem ok7.readOne.readOne.readOne).mono ?_
  rintro e w23 ⟨g, cap, rfl, hg, hrow, hf, m23, k23⟩
  have F23 := F22.aside k23
  have hsz : a7.readOne.readOne.readOne.size = 548 := by decide +kernel
  rw [hsz]
  clear F22 B22 m23 k23 hrow hf
  go_wp2_with fail
  go_ret
  exact ⟨rfl, F23.keep⟩
end Nd
end Go.Proofs.Ytjafjofonckaaaa
