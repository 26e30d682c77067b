/-
  The script's texts: cutLines and Parse over any memory, for texts of any bytes.
-/
import Derived.Test.YtgilagmgepogbaaDoorSc
import Derived.Test.YtgilagmgepogbaaDoorWr
import Derived.Test.YtgilagmgepogbaaDoorKn
set_option linter.unusedVariables false
namespace Go.Proofs.YtgilagmgepogbaaDoor
open Go.ChangeShapes Go.WideShapes Go.ChangeAt Go.RowKit
namespace Tg
open Qm Km

theorem info9 : (Tryd.prog.info? 9).map (fun i => (i.zero, i.size, i.bytes)) = some (some (.string ⟨#[]⟩), 1, 16) := by kernel_rfl
theorem info36 : (Tryd.prog.info? 36).map (fun i => (i.zero, i.size, i.bytes)) = some (some .nilIface, 1, 16) := by kernel_rfl
/-- Texts as cells. -/
def scs (L : List (List Nat)) : List Value := L.map fun l => .string (str l)
theorem scs_len (L : List (List Nat)) : (scs L).length = L.length := by simp [scs]
theorem scs_app (L : List (List Nat)) (l : List Nat) : scs L ++ [.string (str l)] = scs (L ++ [l]) := by simp [scs]
/-- A text gone through while a row of texts grows. -/
structure Li (w wr : World) (k : Nat) (s : ByteArray) (pos : Nat) (a : Option Addr) (cap : Nat) (L : List (List Nat)) : Prop where
  it : wr.heap[k]? = some (.stringIter s pos)
  own : wr.ownsRow (k + 1) 9 1 (.slice a L.length cap) L.length (scs L)
  keep : Keep (fun _ => False) w wr
  ge : w.heap.size ≤ k
theorem Li.lt {w wr : World} {k : Nat} {s : ByteArray} {pos : Nat} {a : Option Addr} {cap : Nat} {L : List (List Nat)} (h : Li w wr k s pos a cap L) : k < wr.heap.size := by
  have hk := h.it
  rcases Nat.lt_or_ge k wr.heap.size with h | h
  · exact h
  · rw [Array.getElem?_eq_none h] at hk; cases hk
theorem Li.next {w wr : World} {k : Nat} {s : ByteArray} {pos : Nat} {a : Option Addr} {cap : Nat} {L : List (List Nat)} (h : Li w wr k s pos a cap L) (hp : pos < s.size) :
    ∃ w', (∀ ty, (Instr.next (.pointer (some ⟨k, 0, none⟩)) true ty).run Tryd.prog wr = .ok (.tuple #[.bool true, .int .i64 pos, .int .i32 ((fixed (rune ((bs s).drop pos))).1 : Nat)]) w') ∧ Li w w' k s (pos + (fixed (rune ((bs s).drop pos))).2) a cap L := by
  obtain ⟨w', h1, h2, h3⟩ := run_next_at h.it hp
  have hs := h.keep.size; have hg := h.ge
  refine ⟨w', h1, h2, own_keep h.own h3 (fun b hb e => by omega), ⟨h3.os.trans h.keep.os, h3.tape.trans h.keep.tape, h3.output.trans h.keep.output, Nat.le_trans hs h3.size, fun i hi _ => ?_⟩, h.ge⟩
  rw [h3.block i (by omega) (by omega)]; exact h.keep.block i hi (fun e => e)
theorem Li.app {w wr : World} {k : Nat} {s : ByteArray} {pos : Nat} {a : Option Addr} {cap : Nat} {L : List (List Nat)} (h : Li w wr k s pos a cap L) (hl : L.length ≤ 20000) (l : List Nat) :
    ∃ a' cap' w', (Builtin.append_ #[47, 47] 47 #[.slice a L.length cap, .slice (some ⟨wr.heap.size, 0, none⟩) 1 1]).run Tryd.prog (wr.alloc (.cells #[.string (str l)] 9)) = .ok (.slice a' (L.length + 1) cap') w' ∧ Li w w' k s pos a' cap' (L ++ [l]) := by
  have hlt := h.lt; have hg := h.ge; have hs := h.keep.size
  obtain ⟨a', cap', w', h1, h2, h3⟩ := own_app1 (t := 47) Tryd.underlying47 info9 rfl (by decide) (by decide) h.own (by omega) (by omega) [.string (str l)] rfl (by intro u hu; simp at hu; subst hu; rfl)
  rw [scs_app] at h2
  refine ⟨a', cap', w', h1, ?_, by rw [List.length_append]; exact h2, ⟨h3.os.trans h.keep.os, h3.tape.trans h.keep.tape, h3.output.trans h.keep.output, Nat.le_trans hs h3.size, fun i hi _ => ?_⟩, h.ge⟩
  · rw [h3.block k hlt (by omega)]; exact h.it
  · rw [h3.block i (by omega) (by omega)]; exact h.keep.block i hi (fun e => e)
theorem Li.gw {w wr : World} {k : Nat} {s : ByteArray} {pos : Nat} {a : Option Addr} {cap : Nat} {L : List (List Nat)} (h : Li w wr k s pos a cap L) : Gw 9 1 w wr a L.length cap (scs L) :=
  ⟨own_base h.own (by have := h.ge; omega), h.keep⟩
/-- The line that is under way. -/
def cur (t : List Nat) (b p : Nat) : List Nat := (t.drop b).take (p - b)
theorem cur_on {t : List Nat} {b p n : Nat} (h : b ≤ p) : cur t b (p + n) = cur t b p ++ (t.drop p).take n := by
  unfold cur
  rw [show p + n - b = (p - b) + n by omega, List.take_add, List.drop_drop, show b + (p - b) = p by omega]
theorem cur_nil (t : List Nat) (p : Nat) : cur t p p = [] := by unfold cur; simp
theorem extract_cur (s : ByteArray) {b p : Nat} (h : b ≤ p) : s.extract b p = str (cur (bs s) b p) := by
  have := bs_extract s b (p - b)
  rw [show b + (p - b) = p by omega] at this
  unfold cur
  rw [← this, str_bs]

set_option maxHeartbeats 2000000 in
set_option maxRecDepth 100000 in
/-- cutLines. -/
theorem lines_any (s : ByteArray) (hs : s.size ≤ 16384) (w : World) : Calls Tryd.prog 18 #[.string s] w fun e w' => ∃ a cap, e = .returned (.slice a (lin [] (bs s)).length cap) ∧ Gw 9 1 w w' a (lin [] (bs s)).length cap (scs (lin [] (bs s))) := by
  have HS : Hid (s.size ≤ 16384 ∧ (lin [] (bs s)).length ≤ 16384) := ⟨hs, by have := lin_len (bs s) []; rw [bs_len] at this; simp at this; omega⟩
  clear hs
  go_enter Tryd.func18, Tryd.ntmps18
  go_wp2
  go_loopw [3, 4] (fun x y wr => ∃ (pos b : Nat) (a : Option Addr) (cap : Nat) (L : List (List Nat)), x = .slice a L.length cap ∧ y = .int .i64 (b : Nat) ∧ Li w wr w.heap.size s pos a cap L ∧ b ≤ pos ∧ pos ≤ s.size ∧ L ++ lin (cur (bs s) b pos) ((bs s).drop pos) = lin [] (bs s)) (fun _ _ wr => s.size - wr.iterPos w.heap.size)
  case atStart => exact ⟨0, 0, none, 0, [], rfl, rfl, ⟨heap_alloc_new w _, World.ownsRow_nil _ _ _ _, (Keep.refl _ _).alloc _, Nat.le_refl _⟩, by omega, by omega, by simp [cur]⟩
  case round =>
    obtain ⟨pos, b, a, cap, L, rfl, rfl, hI, h1, h2, h3⟩ := hrel
    have hLl : L.length ≤ 16384 := by
      have := congrArg List.length h3
      rw [List.length_append] at this
      have := HS.out.2
      omega
    by_cases hp : pos < s.size
    · obtain ⟨w2, hnx, hI2⟩ := hI.next hp
      have hst := rune_step (drop_ne hp)
      have hpp := fixed_pos _ (drop_ne hp)
      rw [List.length_drop, bs_len] at hpp
      generalize (fixed (rune ((bs s).drop pos))).1 = v at *
      generalize (fixed (rune ((bs s).drop pos))).2 = n at *
      by_cases h10 : v = 10
      · subst h10
        have hn1 : n = 1 := by rcases hst with ⟨_, e, _⟩ | ⟨e, _⟩; exact e; omega
        subst hn1
        obtain ⟨a3, cap3, w3, hrun, hI3⟩ := hI2.app (by omega) (cur (bs s) b pos)
        rw [← extract_cur s h1] at hrun
        have H : Hid (Li w w3 w.heap.size s (pos + 1) a3 cap3 (L ++ [cur (bs s) b pos]) ∧ (L ++ [cur (bs s) b pos]) ++ lin (cur (bs s) (pos + 1) (pos + 1)) ((bs s).drop (pos + 1)) = lin [] (bs s)) := by
          refine ⟨hI3, ?_⟩
          rw [← h3, cur_nil]
          rcases hst with ⟨_, _, e⟩ | ⟨e, _⟩
          · rw [e, List.drop_drop]
            simp [lin]
          · omega
        have MM : Hid (wr.iterPos w.heap.size = pos) := by show _ = _; simp [World.iterPos, hI.it]
        have hb1 : (b : Int) ≤ pos := by omega
        have hb2 : (pos : Int) ≤ s.size := by omega
        have hw1 : IntKind.i64.wrap ((pos : Int) + 1) = (pos : Int) + 1 := by have := HS.out.1; rw [IntKind.wrap_i64]; omega
        clear hI hI2 hI3 hst hpp h3 hLl
        go_wp2_with (at_builtin; refine wpList_app rfl (.tmp 15) (.tmp 20) 47 47 rfl (by rfl) (by rfl) hrun ?_)
        refine ⟨⟨pos + 1, pos + 1, a3, cap3, L ++ [cur (bs s) b pos], by rw [List.length_append]; rfl, by rw [Int.natCast_add]; rfl, H.out.1, by omega, by omega, H.out.2⟩, ?_⟩
        have e2 : w3.iterPos w.heap.size = pos + 1 := by simp [World.iterPos, H.out.1.it]
        rw [MM.out, e2]
        omega
      · have H : Hid (Li w w2 w.heap.size s (pos + n) a cap L ∧ L ++ lin (cur (bs s) b (pos + n)) ((bs s).drop (pos + n)) = lin [] (bs s) ∧ 1 ≤ n) := by
          refine ⟨hI2, ?_, hpp.1⟩
          rw [← h3, cur_on h1]
          have hno : ∀ x ∈ ((bs s).drop pos).take n, x ≠ 10 := by
            rcases hst with ⟨_, e2, e⟩ | ⟨_, e⟩
            · rw [e, e2]; intro x hx; simp at hx; omega
            · intro x hx; have := e x hx; omega
          have := lin_run _ (cur (bs s) b pos) (((bs s).drop pos).drop n) hno
          rw [List.take_append_drop, List.drop_drop] at this
          rw [this]
        have MM : Hid (wr.iterPos w.heap.size = pos) := by show _ = _; simp [World.iterPos, hI.it]
        have c1 : ((v : Int) == 10) = false := by rw [beq_eq_false_iff_ne]; omega
        have c2 : ¬ (v : Int) = 10 := by omega
        clear hI hI2 hst h3 hLl h10
        have hpp' := hpp.2
        clear hpp
        go_wp2_with fail
        go_roundw
        case rel => exact ⟨pos + n, b, a, cap, L, rfl, rfl, H.out.1, by omega, by omega, H.out.2.1⟩
        case measure =>
          have e2 : w2.iterPos w.heap.size = pos + n := by simp [World.iterPos, H.out.1.it]
          rw [MM.out, e2]; have := H.out.2.2; omega
    · have hnx : ∀ ty, _ := run_next_none hI.it hp
      obtain rfl : pos = s.size := by omega
      rw [drop_end hp] at h3
      have hcd : cur (bs s) b s.size = (bs s).drop b := by
        unfold cur
        rw [List.take_of_length_le (by rw [List.length_drop, bs_len]; omega)]
      rw [hcd] at h3
      by_cases hb : b < s.size
      · have hne : (bs s).drop b ≠ [] := drop_ne hb
        simp only [lin] at h3
        rw [if_neg hne] at h3
        obtain ⟨a3, cap3, w3, hrun, hI3⟩ := hI.app (by omega) ((bs s).drop b)
        rw [← extract_tail] at hrun
        have H : Hid (Gw 9 1 w w3 a3 (L.length + 1) cap3 (scs (lin [] (bs s))) ∧ (lin [] (bs s)).length = L.length + 1) := by
          have := hI3.gw
          rw [h3, ← h3] at this
          refine ⟨?_, by rw [← h3]; simp⟩
          rw [← h3]
          simpa using this
        have b1 : (b : Int) < s.size := by omega
        have b2 : (b : Int) ≤ s.size := by omega
        clear hI hI3 hne h3 hLl hcd hp
        go_wp2_with (at_builtin; refine wpList_app rfl (.tmp 28) (.tmp 32) 47 47 rfl (by rfl) (by rfl) hrun ?_)
        go_ret
        exact ⟨a3, cap3, by rw [H.out.2]; rfl, by rw [H.out.2]; exact H.out.1⟩
      · have he : (bs s).drop b = [] := drop_end hb
        rw [he] at h3
        simp only [lin, if_true, List.append_nil] at h3
        have H : Hid (Gw 9 1 w wr a L.length cap (scs L) ∧ L = lin [] (bs s)) := ⟨hI.gw, h3⟩
        have b1 : ¬ (b : Int) < s.size := by omega
        clear hI h3 hLl hcd hp he
        go_wp2_with fail
        go_ret
        exact ⟨a, cap, by rw [← H.out.2]; rfl, by rw [← H.out.2]; exact H.out.1⟩
end Tg
end Go.Proofs.YtgilagmgepogbaaDoor
