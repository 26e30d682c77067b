/-
  awake, ScriptKnown and ScriptWords, over any memory.
-/
import Derived.Test.YtgilagmgepogbaaDoorLk
import Derived.Test.YtgilagmgepogbaaDoorSi
import Derived.Test.YtgilagmgepogbaaDoorRb
import Derived.Laws.StructEq
set_option linter.unusedVariables false
namespace Go.Proofs.YtgilagmgepogbaaDoor
open Go.ChangeShapes Go.WideShapes Go.ChangeAt Go.RowKit
namespace Tg
open Qm Km

theorem fit_of_ok {c : Cm} (h : c.Ok) (hl : c.d.length ≤ 35184372088000) : Cm.Fit c := ⟨h.kind, ⟨by have := h.a0; omega, by have := h.a1; omega⟩, ⟨by have := h.b0; omega, by have := h.b1; omega⟩, h.byte, hl⟩
/-- Parse of a text whose answer is known. -/
theorem parse_is {s : ByteArray} {L : List Cm} {n e : Nat} (h : parse (bs s) = (L, n, e)) (w : World) (hG : Gt w) :
    Calls Tryd.prog 9 #[.string s] w fun x w' => ∃ a cap, x = .returned (.tuple #[.slice a L.length cap, .int .i64 (n : Nat), .int .i64 (e : Nat)]) ∧ Gw 36 1 w w' a L.length cap (cvs L) := by
  have := sparse_any s w hG.1
  rw [h] at this
  exact this
theorem print_is {L : List Cm} {t : ByteArray} (h : str (prt L) = t) (hF : ∀ c ∈ L, Cm.Fit c) (hP : (prt L).length ≤ 100000000) (hL : L.length ≤ 1000000) (a : Option Addr) (cap : Nat) (w : World) (hG : Gt w) (hR : Rd w a (cvs L)) :
    Calls Tryd.prog 10 #[.slice a L.length cap] w fun e w' => e = .returned (.string t) ∧ Keep (fun _ => False) w w' := by
  rw [← h]
  exact print_any L hF hP hL a cap w hG hR

theorem ta51 (x : Value) (w : World) : (Instr.typeAssert (.iface 51 x) 36 51 true).run Tryd.prog w = .ok (.tuple #[x, .bool true]) w := by kernel_rfl
theorem eq51 (w : World) : (binOp .eql 51 (.agg #[.int .i64 3, .int .i64 2, .string ⟨#[97, 98, 10]⟩]) (.agg #[.int .i64 3, .int .i64 2, .string ⟨#[97, 98, 10]⟩]) ).run Tryd.prog w = .ok (.bool true) w := by kernel_rfl
def txA : ByteArray := ⟨#[119, 114, 105, 116, 101, 32, 51, 32, 50, 32, 34, 97, 98, 92, 110, 34, 10, 35, 32, 120, 10, 109, 111, 117, 110, 116, 32, 53]⟩
theorem bs_txA : bs txA = [119, 114, 105, 116, 101, 32, 51, 32, 50, 32, 34, 97, 98, 92, 110, 34, 10, 35, 32, 120, 10, 109, 111, 117, 110, 116, 32, 53] := by decide
theorem str_ex9 : str (prt ex9) = ⟨[114, 101, 97, 100, 32, 49, 32, 50, 10, 119, 114, 105, 116, 101, 32, 48, 32, 49, 32, 34, 92, 120, 102, 102, 34, 10, 116, 114, 105, 109, 32, 51, 32, 52, 10, 99, 117, 116, 32, 53, 10, 102, 97, 105, 108, 32, 54, 10, 109, 111, 117, 110, 116, 10, 109, 111, 117, 110, 116, 32, 45, 50, 10, 115, 104, 111, 119, 10, 115, 116, 97, 116, 10].toArray⟩ := by
  rw [prt_ex]
  rfl
theorem fit_ex9 : ∀ c ∈ ex9, Cm.Fit c := by
  intro c hc
  simp only [ex9, List.mem_cons, List.not_mem_nil, or_false] at hc
  rcases hc with rfl | rfl | rfl | rfl | rfl | rfl | rfl | rfl | rfl
  all_goals exact ⟨by unfold Kind; decide, by unfold I64; decide, by unfold I64; decide, by decide, by decide⟩

set_option maxHeartbeats 4000000 in
set_option maxRecDepth 100000 in
theorem awake_any (w : World) (hG : Gt w) : Calls Tryd.prog 8 #[] w fun e w' => e = .returned (.bool true) ∧ Keep (fun _ => False) w w' := by
  have hp : Calls Tryd.prog 9 #[.string txA] w fun x w' => ∃ a cap, x = .returned (.tuple #[.slice a 2 cap, .int .i64 0, .int .i64 0]) ∧ Gw 36 1 w w' a 2 cap (cvs [ex1, ex2]) :=
    parse_is (L := [ex1, ex2]) (n := 0) (e := 0) (by rw [bs_txA]; exact parse_ex) w hG
  have hp' : Calls Tryd.prog 9 #[.string ⟨#[119, 114, 105, 116, 101, 32, 51, 32, 50, 32, 34, 97, 98, 92, 110, 34, 10, 35, 32, 120, 10, 109, 111, 117, 110, 116, 32, 53]⟩] w _ := hp
  have HG : Hid (Gt w) := hG
  clear hG hp
  go_enter Tryd.func8, Tryd.ntmps8
  go_wp2_with fail
  refine hp'.mono ?_
  rintro e w1 ⟨a1, c1, rfl, hw1⟩
  clear hp'
  have K1 : Keep (fun _ => False) w w1 := hw1.keep
  have HR : Rd w1 a1 (cvs [ex1, ex2]) := hw1.rd
  clear hw1
  obtain ⟨b, o, rfl, hc⟩ : ∃ b o, a1 = some ⟨b, o, none⟩ ∧ ∀ j u, (cvs [ex1, ex2])[j]? = some u → w1.cell? ⟨b, o + j, none⟩ = some u := by
    rcases HR with h | h
    · cases h
    · exact h
  have d0 : w1.cell? ⟨b, o, none⟩ = some (.iface 51 (.agg #[.int .i64 3, .int .i64 2, .string ⟨#[97, 98, 10]⟩])) := hc 0 _ rfl
  have HD : Hid (∀ W, Keep (fun _ => False) w1 W → W.cell? ⟨b, o + 1, none⟩ = some (.iface 59 (.agg #[.int .i64 5]))) := fun W k => by
    have := hc 1 _ rfl
    rw [← show w1.cell? ⟨b, o + 1, none⟩ = some (.iface 59 (.agg #[.int .i64 5])) from this]
    exact World.cell?_of_block (w := w1) (a := ⟨b, o + 1, none⟩) (k.block b (World.block_lt_of_cell? w1 _ this) (fun e => e))
  clear hc HR
  have ta := ta51
  go_wp2_with fail
  have hwd : ∀ W, Calls Tryd.prog 14 #[.string ⟨#[32, 32, 97, 98, 32, 99]⟩] W fun e w' => e = .returned (.tuple #[.string ⟨#[97, 98]⟩, .string ⟨#[32, 99]⟩]) ∧ Keep (fun _ => False) W w' := fun W => word_any ⟨#[32, 32, 97, 98, 32, 99]⟩ (by decide) W
  refine (hwd _).mono ?_
  rintro e w2 ⟨rfl, k2⟩
  clear hwd
  have K2 : Keep (fun _ => False) w1 w2 := ((Keep.refl _ _).alloc _).trans k2
  have HB : Hid (∀ W, Keep (fun _ => False) w2 W → W.cell? ⟨w1.heap.size, 0, none⟩ = some (.int .i64 3) ∧ W.cell? ⟨w1.heap.size, 1, none⟩ = some (.int .i64 2) ∧ W.cell? ⟨w1.heap.size, 2, none⟩ = some (.string ⟨#[97, 98, 10]⟩)) := fun W k => by
    rcases (rd_new w1 [.int .i64 3, .int .i64 2, .string ⟨#[97, 98, 10]⟩] 51).keep (k2.trans k) with h | ⟨b', o', h1, h2⟩
    · cases h
    · injection h1 with h1
      injection h1 with h1 h3
      subst h1 h3
      exact ⟨h2 0 _ rfl, h2 1 _ rfl, h2 2 _ rfl⟩
  have hpr := print_is (L := ex9) str_ex9 fit_ex9 (by rw [prt_ex]; decide) (by decide) (some ⟨w2.heap.size, 0, none⟩) 9 (w2.alloc (.cells (cvs ex9).toArray 36)) (HG.out.keep ((K1.trans K2).alloc _)) (rd_new w2 (cvs ex9) 36)
  have hpr' : Calls Tryd.prog 10 #[.slice (some ⟨w2.heap.size, 0, none⟩) 9 9] (w2.alloc (.cells #[.iface 54 (.agg #[.int .i64 1, .int .i64 2]), .iface 51 (.agg #[.int .i64 0, .int .i64 1, .string ⟨#[255]⟩]), .iface 55 (.agg #[.int .i64 3, .int .i64 4]), .iface 57 (.agg #[.int .i64 5]), .iface 58 (.agg #[.int .i64 6]), .iface 59 (.agg #[.int .i64 (-1)]), .iface 59 (.agg #[.int .i64 (-2)]), .iface 61 (.agg #[]), .iface 62 (.agg #[])] 36)) _ := hpr
  clear hpr k2 d0
  go_wp2_with fail
  refine hpr'.mono ?_
  rintro e w3 ⟨rfl, k3⟩
  clear hpr'
  have K3 : Keep (fun _ => False) w2 w3 := ((Keep.refl _ _).alloc _).trans k3
  clear k3
  obtain ⟨c0, c1', c2⟩ := HB.out w3 K3
  have d1 := HD.out w3 (K2.trans K3)
  have e5 := eq51
  have hI := invoke_text (c := ex2) (by unfold Kind ex2; decide) w3
  have htx := text_any (c := ex2) (fit_of_ok ok_ex2 (by decide)) w3 (HG.out.keep ((K1.trans K2).trans K3))
  rw [txt_ex2] at htx
  have hI' : (invoke (.fn (.method "Text") #[]) #[.iface 59 (.agg #[.int .i64 5])]).run Tryd.prog w3 = .ok (.enter 110 #[.agg #[.int .i64 5]]) w3 := hI
  have htx' : Calls Tryd.prog 110 #[.agg #[.int .i64 5]] w3 fun e w2 => ∃ v, e = .returned v ∧ (fun v w2 => v = .string ⟨#[109, 111, 117, 110, 116, 32, 53]⟩ ∧ Keep (fun _ => False) w3 w2) v w2 := htx.mono (fun e w2 ⟨h1, h2⟩ => ⟨_, h1, ⟨rfl, h2⟩⟩)
  have HK : Hid (Keep (fun _ => False) w w3) := (K1.trans K2).trans K3
  clear hI htx K1 K2 K3
  go_wp2_with (refine wpList_invoke rfl (.tmp 65) "Text" rfl (by rfl) hI' htx' ?_)
  rintro _ w4 rfl k4
  go_wp2_with fail
  go_ret
  exact ⟨rfl, HK.out.trans k4⟩

set_option maxHeartbeats 2000000 in
set_option maxRecDepth 100000 in
/-- ScriptKnown. -/
theorem known_law (w : World) (hG : Gt w) : Calls Tryd.prog 3 #[] w fun e w' => e = .returned (.bool true) ∧ Keep (fun _ => False) w w' := by
  have ha := awake_any w hG
  have p1 : ∀ W, Gt W → Calls Tryd.prog 9 #[.string ⟨#[114, 101, 97, 100, 32, 49]⟩] W fun x w' => ∃ a cap, x = .returned (.tuple #[.slice a 0 cap, .int .i64 1, .int .i64 3]) ∧ Gw 36 1 W w' a 0 cap (cvs []) := fun W hW => parse_is (s := ⟨#[114, 101, 97, 100, 32, 49]⟩) (L := []) (n := 1) (e := 3) parse_k1 W hW
  have p2 : ∀ W, Gt W → Calls Tryd.prog 9 #[.string ⟨#[10, 119, 114, 105, 116, 101, 32, 48, 32, 49, 32, 34, 97]⟩] W fun x w' => ∃ a cap, x = .returned (.tuple #[.slice a 0 cap, .int .i64 2, .int .i64 3]) ∧ Gw 36 1 W w' a 0 cap (cvs []) := fun W hW => parse_is (s := ⟨#[10, 119, 114, 105, 116, 101, 32, 48, 32, 49, 32, 34, 97]⟩) (L := []) (n := 2) (e := 3) parse_k2 W hW
  have p3 : ∀ W, Gt W → Calls Tryd.prog 9 #[.string ⟨#[116, 114, 105, 109, 32, 49, 32, 50, 32, 51]⟩] W fun x w' => ∃ a cap, x = .returned (.tuple #[.slice a 0 cap, .int .i64 1, .int .i64 3]) ∧ Gw 36 1 W w' a 0 cap (cvs []) := fun W hW => parse_is (s := ⟨#[116, 114, 105, 109, 32, 49, 32, 50, 32, 51]⟩) (L := []) (n := 1) (e := 3) parse_k3 W hW
  have p4 : ∀ W, Gt W → Calls Tryd.prog 10 #[.slice none 0 0] W fun e w' => e = .returned (.string ⟨#[]⟩) ∧ Keep (fun _ => False) W w' := fun W hW => print_is (L := []) (t := ⟨#[]⟩) rfl (by simp) (by decide) (by decide) none 0 W hW (Rd.nil _ _)
  have HG : Hid (Gt w) := hG
  clear hG
  go_enter Tryd.func3, Tryd.ntmps3
  go_wp2_with fail
  refine ha.mono ?_
  rintro e w1 ⟨rfl, k1⟩
  go_wp2_with fail
  refine (p1 _ (HG.out.keep k1)).mono ?_
  rintro e w2 ⟨a2, c2, rfl, h2⟩
  have k2 := k1.trans h2.keep
  clear h2
  go_wp2_with fail
  refine (p2 _ (HG.out.keep k2)).mono ?_
  rintro e w3 ⟨a3, c3, rfl, h3⟩
  have k3 := k2.trans h3.keep
  clear h3
  go_wp2_with fail
  refine (p3 _ (HG.out.keep k3)).mono ?_
  rintro e w4 ⟨a4, c4, rfl, h4⟩
  have k4 := k3.trans h4.keep
  clear h4
  go_wp2_with fail
  refine (p4 _ (HG.out.keep k4)).mono ?_
  rintro e w5 ⟨rfl, k5⟩
  go_wp2_with fail
  go_ret
  exact ⟨rfl, k4.trans k5⟩

set_option maxHeartbeats 2000000 in
set_option maxRecDepth 100000 in
/-- ScriptWords. -/
theorem words_law (s : ByteArray) (hs : s.size ≤ 140737488355328) (w : World) (hG : Gt w) : Calls Tryd.prog 5 #[.string s] w fun e w' => e = .returned (.bool true) ∧ Keep (fun _ => False) w w' := by
  have h1 := word_any s hs w
  have h2 := fun W => rword_any s (by omega) W
  have HG : Hid (Gt w) := hG
  clear hG hs
  generalize str (wrd (bs s)) = X at *
  generalize str (rst (bs s)) = Y at *
  go_enter Tryd.func5, Tryd.ntmps5
  go_wp2_with fail
  refine h1.mono ?_
  rintro e w1 ⟨rfl, k1⟩
  go_wp2_with fail
  refine (h2 _).mono ?_
  rintro e w2 ⟨rfl, k2⟩
  have ha := awake_any w2 (HG.out.keep (k1.trans k2))
  go_wp2_with fail
  refine ha.mono ?_
  rintro e w3 ⟨rfl, k3⟩
  go_wp2_with fail
  go_ret
  exact ⟨rfl, (k1.trans k2).trans k3⟩
end Tg
end Go.Proofs.YtgilagmgepogbaaDoor
