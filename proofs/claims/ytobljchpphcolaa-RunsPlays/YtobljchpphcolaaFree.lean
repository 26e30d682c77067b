/-
  What Free answers: the free list, in new memory.
-/
import Derived.Test.YtobljchpphcolaaNew
namespace Go.Proofs.Ytobljchpphcolaa
open Go.ChangeShapes Go.WideShapes Go.ChangeAt Go.RowKit
namespace Tg

/-- A row of numbers of one's own that may grow. -/
structure Gw (w0 w : World) (g cap : Nat) (l : List Int) : Prop where
  row : Tw.Row w (some ⟨g, 0, none⟩) l.length cap l
  free : Tw.Free w g cap
  new : w0.heap.size ≤ g
  keep : Keep (fun _ => False) w0 w

set_option maxRecDepth 100000 in
theorem Gw.app {w0 w : World} {g cap : Nat} {l : List Int} (h : Gw w0 w g cap l) {n : Nat} (hn : l.length = n) {a2 : Option Addr} {m c : Nat} {l2 : List Int} (hr2 : Tw.Row w a2 m c l2) (hlen : n + m ≤ 35184372088832) :
    ∃ g' cap' w2, (Builtin.append_ #[72, 72] 72 #[.slice (some ⟨g, 0, none⟩) n cap, .slice a2 m c]).run Try.prog w = .ok (.slice (some ⟨g', 0, none⟩) (n + m) cap') w2 ∧ Gw w0 w2 g' cap' (l ++ l2) := by
  subst hn
  obtain ⟨g', cap', w2, hrun, hrow, hk, hg, hf⟩ := Tw.append_rows w g cap l.length l h.row h.free a2 m c l2 hr2 hlen
  have hm : (l ++ l2).length = l.length + m := by rw [List.length_append, hr2.1]
  have hn := h.new
  refine ⟨g', cap', w2, hrun, by rw [hm]; exact hrow, hf, ?_, h.keep.next hk (fun x hx e => by omega)⟩
  rcases hg with rfl | hg
  · exact hn
  · have := h.keep.size; omega
theorem Gw.more {w0 w w' : World} {g cap : Nat} {l : List Int} (h : Gw w0 w g cap l) (k : Keep (fun _ => False) w w') : Gw w0 w' g cap l := ⟨h.row.keep k (fun _ _ _ e => e), h.free.keep k (fun e => e), h.new, h.keep.trans k⟩
theorem Gw.drew {w0 w : World} {g cap : Nat} {l : List Int} (h : Gw w0 w g cap l) : Gw w0 w.drew g cap l := h.more ((Keep.refl (fun _ => False) w).drew)

theorem make_words (m : Nat) (hm : m ≤ 512) (w : World) : (Instr.makeSlice 72 (.int .i64 0) (.int .i64 (m : Int))).run Try.prog w =
    .ok (.slice (some ⟨w.heap.size, 0, none⟩) 0 m) (w.alloc (.cells (madeCells #[.int .u32 0] m) 74)) := by
  obtain ⟨i, hi, hz0, hz1, hz2⟩ := info_parts Tw.info27
  have := run_make (P := Try.prog) w 72 74 i _ Try.underlying72 hi hz0 .i64 .i64 0 m (by omega) (by omega) (by rw [hz2]; omega) (by omega)
  rw [hz1, Nat.mul_one] at this
  exact this

set_option maxRecDepth 100000 in
theorem gw_made (w : World) (m : Nat) (hm : m ≤ 512) : Gw w (w.alloc (.cells (madeCells #[.int .u32 0] m) 74)) w.heap.size m [] := by
  refine ⟨⟨rfl, by simp, by omega, by simp, Or.inl rfl⟩, fun i hi => ?_, Nat.le_refl _, (Keep.refl _ _).alloc _⟩
  exact ⟨by rw [(World.rowIs_made w (.int .u32 0) m 74).cell hi]; rfl, (World.rowIs_made w (.int .u32 0) m 74).frozen i⟩

/-- Numbers as integers. -/
def ints (l : List Nat) : List Int := l.map Int.ofNat
theorem ints_len (l : List Nat) : (ints l).length = l.length := by simp [ints]
theorem ints_app (l m : List Nat) : ints (l ++ m) = ints l ++ ints m := by simp [ints]
set_option maxRecDepth 100000 in
theorem ints_get (l : List Nat) (i : Nat) : (ints l).getD i 0 = ((l.getD i 0 : Nat) : Int) := by
  unfold ints
  simp only [List.getD, List.getElem?_map]
  cases l[i]? <;> rfl

def slen : Value → Nat
  | .slice _ n _ => n
  | _ => 0

set_option maxRecDepth 100000 in
set_option maxHeartbeats 600000 in
theorem free_any {w : World} {p k : Nat} {s : Ar} {l : List Nat} (h : Mem w p k s) (ok : s.Ok l) :
    Calls Try.prog 43 #[.pointer (some ⟨p, 0, none⟩)] w fun e w' => ∃ g cap, e = .returned (.slice (some ⟨g, 0, none⟩) l.length cap) ∧ Gw w w' g cap (ints l) := by
  obtain ⟨t0, t1, t2, f1, f2⟩ := h.tops
  have hN := ok.small
  have hc := ok.count
  have hmk := make_words l.length (by omega)
  have dl : IntKind.i64.wrap ((s.N : Int) - (s.count : Int)) = (l.length : Int) := by rw [IntKind.wrap_i64]; omega
  have dl2 : (s.N : Int) - (s.count : Int) = (l.length : Int) := by omega
  have HL : Hid (Lnk s.next s.first l) := ok.lnk
  have HG := gw_made w l.length (by omega)
  have ht := h.alloc (.cells (madeCells #[.int .u32 0] l.length) 74)
  obtain ⟨s0, s1, s2, sf1, sf2⟩ := ht.tops
  clear f1 f2 sf1 sf2 hc
  go_enter Try.func43, Try.ntmps43
  go_wp2_with fail
  go_region
  have HG1 := HG.drew
  have ht1 := ht.drew
  generalize (w.alloc (Obj.cells (madeCells #[Value.int IntKind.u32 0] l.length) 74)).drew = w1 at HG1 ht1 ⊢
  obtain ⟨u0, u1, u2, uf1, uf2⟩ := ht1.tops
  clear s0 s1 s2 HG ht hmk dl dl2 t0 t1 t2 uf1 uf2 u2
  go_wp2_with fail
  go_loopw [3, 4] (fun b i wr => ∃ (a r : List Nat) (f g cap : Nat), l = a ++ r ∧ i = .int .u32 (f : Int) ∧ b = .slice (some ⟨g, 0, none⟩) a.length cap ∧ Lnk s.next f r ∧ Gw w wr g cap (ints a)) (fun b _ _ => l.length - slen b)
  case atStart => exact ⟨[], l, s.first, _, _, rfl, rfl, rfl, HL, HG1⟩
  case round =>
    obtain ⟨a, r, f, g, cap, hl, rfl, rfl, hlk, hg⟩ := hrel
    have hm := h.keep hg.keep (fun e => e) (fun e => e)
    obtain ⟨v0, v1, v2, vf1, vf2⟩ := hm.tops
    clear HG1 ht1 u0 u1 v1 v2 vf1 vf2 HL
    cases r with
    | nil =>
      have hf : f = 0 := hlk
      subst hf
      simp only [List.append_nil] at hl
      subst hl
      rw [show ((0 : Nat) : Int) = 0 from rfl]
      clear v0 hm
      go_wp2_with fail
      go_ret
      exact ⟨_, _, rfl, hg⟩
    | cons x r =>
      obtain ⟨hf, hlk⟩ := hlk
      subst hf
      have hr := ok.range f (by rw [hl]; simp)
      have hnx := ok.nx f
      have hN := ok.small
      obtain ⟨q, rfl⟩ : ∃ q, f = q + 1 := ⟨f - 1, by omega⟩
      have hK : Keep (fun _ => False) wr (wr.alloc (.cells #[.int .u32 ((q : Int) + 1)] 74)) := (Keep.refl _ _).alloc _
      have hlen : l.length = a.length + (r.length + 1) := by rw [hl]; simp
      have hln : l.length ≤ 512 := by have := ok.count; omega
      obtain ⟨g2, cap2, w2, hrun, hg2⟩ := (hg.more hK).app (ints_len a) (Tw.row_new wr [(q : Int) + 1] (0, 0) wr.heap.size 1 rfl (by simp) (by omega) (by simp; omega)) (by simp; omega)
      have hm2 := h.keep hg2.keep (fun e => e) (fun e => e)
      obtain ⟨x0, x1, x2, xf1, xf2⟩ := hm2.tops
      obtain ⟨c6, c7, g7⟩ := hm2.at (q := q) (by omega)
      simp only [List.length_cons, List.length_nil, Nat.zero_add] at hrun
      have d0 : ((q : Int) + 1 == 0) = false := by simp; omega
      have dN : (q : Int) < s.N := by omega
      have HX : Hid (l = a ++ (q + 1) :: r) := hl
      rw [show ((q + 1 : Nat) : Int) = (q : Int) + 1 from rfl]
      clear x1 x2 xf1 xf2 c6 g7 hm hm2 hK hg h ok v0 hl hr
      have HLK : Hid (Lnk s.next (s.next (q + 1)) r) := hlk
      have HLE : Hid (l.length = a.length + (r.length + 1)) := hlen
      clear hlk hlen hln
      go_wp2_with (at_builtin; refine wpList_append_run rfl (.tmp 31) (.tmp 33) 72 rfl (by rfl) (by rfl) hrun ?_)
      go_roundw
      case rel =>
        refine ⟨a ++ [q + 1], r, s.next (q + 1), g2, cap2, ?_, rfl, ?_, HLK, ?_⟩
        · have : l = a ++ (q + 1) :: r := HX
          rw [this]; simp
        · simp
        · rw [ints_app]; exact hg2
      case measure =>
        have : l.length = a.length + (r.length + 1) := HLE
        simp [slen]; omega
end Tg
end Go.Proofs.Ytobljchpphcolaa
