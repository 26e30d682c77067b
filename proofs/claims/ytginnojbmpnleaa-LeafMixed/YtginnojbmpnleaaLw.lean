/-
  The document's own whole, walked.
-/
import Derived.Test.YtginnojbmpnleaaLn
namespace Go.Proofs.Ytginnojbmpnleaa
open Go.ChangeShapes Go.WideShapes Go.ChangeAt Go.RowKit
namespace Tg
theorem size36 : (Try.prog.info? 36).map (·.size) = some 4 := by kernel_rfl
theorem under36 : ∃ d, Try.prog.underlying 36 = some d ∧ d.isRow = true := ⟨_, Try.underlying36, rfl⟩
theorem info4 : (Try.prog.info? 4).map (fun i => (i.zero, i.size, i.bytes)) = some (some (.bool false), 1, 1) := by kernel_rfl
theorem make_bytes (n : Nat) (hn : n ≤ 139264) (w : World) : (Instr.makeSlice 28 (.int .i64 (n : Int)) (.int .i64 (n : Int))).run Try.prog w = .ok (.slice (some ⟨w.heap.size, 0, none⟩) n n) (w.alloc (.cells (madeCells #[.int .u8 0] n) 5)) :=
  run_make_row' (P := Try.prog) 28 5 (.int .u8 0) 1 Try.underlying28 info5 rfl .i64 .i64 n (by omega) (by omega) w
theorem make_bools (n : Nat) (hn : n ≤ 139264) (w : World) : (Instr.makeSlice 66 (.int .i64 (n : Int)) (.int .i64 (n : Int))).run Try.prog w = .ok (.slice (some ⟨w.heap.size, 0, none⟩) n n) (w.alloc (.cells (madeCells #[.bool false] n) 4)) :=
  run_make_row' (P := Try.prog) 66 4 (.bool false) 1 Try.underlying66 info4 rfl .i64 .i64 n (by omega) (by omega) w
theorem blk_made (w : World) (z : Value) (t : TypeId) (n : Nat) : Blk (w.alloc (.cells (madeCells #[z] n) t)) w.heap.size n (fun _ => z) := fun i hi =>
  ⟨(World.rowIs_made w z n t).cell hi, (World.rowIs_made w z n t).frozen i⟩
theorem Sv.c0 {w : World} {b : Nat} {k e g : Int} {a : Option Addr} {len cap : Nat} (h : Sv w b k e g a len cap) : w.cell? ⟨b, 0, none⟩ = some (.int .i64 k) := (h 0 (by omega)).1
theorem Sv.c1 {w : World} {b : Nat} {k e g : Int} {a : Option Addr} {len cap : Nat} (h : Sv w b k e g a len cap) : w.cell? ⟨b, 1, none⟩ = some (.int .u32 e) := (h 1 (by omega)).1
theorem Sv.c2 {w : World} {b : Nat} {k e g : Int} {a : Option Addr} {len cap : Nat} (h : Sv w b k e g a len cap) : w.cell? ⟨b, 2, none⟩ = some (.int .u32 g) := (h 2 (by omega)).1
theorem Sv.c3 {w : World} {b : Nat} {k e g : Int} {a : Option Addr} {len cap : Nat} (h : Sv w b k e g a len cap) : w.cell? ⟨b, 3, none⟩ = some (.slice a len cap) := (h 3 (by omega)).1
theorem Sv.new (w : World) (k e g : Int) (a : Option Addr) (len cap : Nat) : Sv (w.alloc (.cells #[.int .i64 k, .int .u32 e, .int .u32 g, .slice a len cap] 36)) w.heap.size k e g a len cap := blk_alloc w _ 36 4 _ (by intro k hk; rcases (by omega : k = 0 ∨ k = 1 ∨ k = 2 ∨ k = 3) with rfl | rfl | rfl | rfl <;> rfl)
theorem Sv.range {w : World} {b : Nat} {k e g : Int} {a : Option Addr} {len cap : Nat} (h : Sv w b k e g a len cap) : w.rangeAt b 0 [.int .i64 k, .int .u32 e, .int .u32 g, .slice a len cap] := by
  intro j v hv
  rcases j with _ | _ | _ | _ | j
  · injection hv with hv; rw [← hv]; exact h.c0
  · injection hv with hv; rw [← hv]; exact h.c1
  · injection hv with hv; rw [← hv]; exact h.c2
  · injection hv with hv; rw [← hv]; exact h.c3
  · simp at hv
theorem Sv.loadVar {w : World} {b : Nat} {k e g : Int} {a : Option Addr} {len cap : Nat} (h : Sv w b k e g a len cap) : (Go.loadVar 36 ⟨b, 0, none⟩).run Try.prog w = .ok (.agg #[.int .i64 k, .int .u32 e, .int .u32 g, .slice a len cap]) w := by
  obtain ⟨t, h1, h2⟩ := under36
  have := run_loadVar_mid (P := Try.prog) w b 0 36 [.int .i64 k, .int .u32 e, .int .u32 g, .slice a len cap] t h.range h1 h2 (by rw [size36]; simp)
  simpa using this
theorem Sv.over {w : World} {b : Nat} {k e g : Int} {a : Option Addr} {len cap : Nat} (h : Sv w b k e g a len cap) (k' e' g' : Int) (a' : Option Addr) (len' cap' : Nat) : ∃ w', (Instr.storeAt 36 (.pointer (some ⟨b, 0, none⟩)) (.agg #[.int .i64 k', .int .u32 e', .int .u32 g', .slice a' len' cap'])).run Try.prog w = .ok () w' ∧ Sv w' b k' e' g' a' len' cap' ∧ Keep (fun x => x = b) w w' := by
  have ht : w.there b 0 (#[.int .i64 k', .int .u32 e', .int .u32 g', .slice a' len' cap'] : Array Value).size := fun j hj => ⟨by rw [(h (0 + j) (by simp at hj; omega)).1]; rfl, (h (0 + j) (by simp at hj; omega)).2⟩
  refine ⟨_, run_storeAt_mid w b 0 36 #[.int .i64 k', .int .u32 e', .int .u32 g', .slice a' len' cap'] ht size36 (by simp [Value.oneCell']), ?_, (Keep.refl (fun x => x = b) w).setCells (b := b) (Or.inl rfl) _ _⟩
  exact Blk.congr (Blk.setCells h 0 4 (fun j => if j = 0 then .int .i64 k' else if j = 1 then .int .u32 e' else if j = 2 then .int .u32 g' else .slice a' len' cap') (by omega)) (fun i hi => by rw [if_pos (by omega), Nat.sub_zero])
/-- What whole has laid: the page, the answer, the stream, what is there, the bytes. -/
structure Wst (w wx : World) (b3 b4 b6 bh bb n : Nat) (p : Pg) (hv : Nat → Bool) (bf : Nat → Int) : Prop where
  pp : Pv wx b3 p
  res : Sv wx b4 0 0 0 none 0 0
  st : Sv wx b6 p.kind p.ep p.gr none 0 0
  hav : Blk wx bh n (fun k => .bool (hv k))
  byt : Blk wx bb (n * 32) (fun j => .int .u8 (bf j))
  keep : Keep (fun _ => False) w wx
  ord : w.heap.size ≤ b3 ∧ b3 < b4 ∧ b4 < b6 ∧ b6 < bh ∧ bh < bb
  pos : 0 < n
theorem Wst.more {w wx w2 : World} {b3 b4 b6 bh bb n : Nat} {p : Pg} {hv : Nat → Bool} {bf : Nat → Int} (h : Wst w wx b3 b4 b6 bh bb n p hv bf) (k : Keep (fun _ => False) wx w2) : Wst w w2 b3 b4 b6 bh bb n p hv bf :=
  ⟨Blk.keep h.pp k (fun e => e), Blk.keep h.res k (fun e => e), Blk.keep h.st k (fun e => e), h.hav.keep k (fun e => e), h.byt.keep k (fun e => e), h.keep.trans k, h.ord, h.pos⟩
theorem Wst.lt {w wx : World} {b3 b4 b6 bh bb n : Nat} {p : Pg} {hv : Nat → Bool} {bf : Nat → Int} (h : Wst w wx b3 b4 b6 bh bb n p hv bf) : bb < wx.heap.size := h.byt.lt (by have := h.pos; omega)
/-- Blocks made later change nothing of it. -/
theorem Wst.past {S : Nat → Prop} {w wx w2 : World} {b3 b4 b6 bh bb n : Nat} {p : Pg} {hv : Nat → Bool} {bf : Nat → Int} (h : Wst w wx b3 b4 b6 bh bb n p hv bf) (k : Keep S wx w2) (hs : ∀ x, S x → bb < x) : Wst w w2 b3 b4 b6 bh bb n p hv bf := by
  have ho := h.ord
  exact ⟨Blk.keep h.pp k (fun e => by have := hs _ e; omega), Blk.keep h.res k (fun e => by have := hs _ e; omega), Blk.keep h.st k (fun e => by have := hs _ e; omega), h.hav.keep k (fun e => by have := hs _ e; omega), h.byt.keep k (fun e => by have := hs _ e; omega), h.keep.next k (fun x hx e => by have := hs _ e; omega), h.ord, h.pos⟩
theorem Wst.setB {w wx : World} {b3 b4 b6 bh bb n : Nat} {p : Pg} {hv : Nat → Bool} {bf bf' : Nat → Int} (h : Wst w wx b3 b4 b6 bh bb n p hv bf) (x : Nat) (v : Int) (he : ∀ y, y < n * 32 → bf' y = if y = x then v else bf y) : Wst w (wx.setCell ⟨bb, x, none⟩ (.int .u8 v)) b3 b4 b6 bh bb n p hv bf' := by
  have k : Keep (fun b => b = bb) wx (wx.setCell ⟨bb, x, none⟩ (.int .u8 v)) := (Keep.refl (fun b => b = bb) wx).setCell (Or.inl rfl) _
  have ho := h.ord
  refine ⟨Blk.keep h.pp k (by omega), Blk.keep h.res k (by omega), Blk.keep h.st k (by omega), h.hav.keep k (by omega), (h.byt.set x _).congr (fun y hy => ?_), h.keep.next k (fun x hx e => by omega), h.ord, h.pos⟩
  rw [he y hy]
  by_cases e : y = x
  · rw [if_pos e, if_pos e]
  · rw [if_neg e, if_neg e]
theorem Wst.setH {w wx : World} {b3 b4 b6 bh bb n : Nat} {p : Pg} {hv : Nat → Bool} {bf : Nat → Int} (h : Wst w wx b3 b4 b6 bh bb n p hv bf) (x : Nat) : Wst w (wx.setCell ⟨bh, x, none⟩ (.bool true)) b3 b4 b6 bh bb n p (fun y => if y = x then true else hv y) bf := by
  have k : Keep (fun b => b = bh) wx (wx.setCell ⟨bh, x, none⟩ (.bool true)) := (Keep.refl (fun b => b = bh) wx).setCell (Or.inl rfl) _
  have ho := h.ord
  refine ⟨Blk.keep h.pp k (by omega), Blk.keep h.res k (by omega), Blk.keep h.st k (by omega), (h.hav.set x _).congr (fun y hy => ?_), h.byt.keep k (by omega), h.keep.next k (fun x hx e => by omega), h.ord, h.pos⟩
  by_cases e : y = x
  · rw [if_pos e, if_pos e]
  · rw [if_neg e, if_neg e]
theorem answer0 {w wx : World} {b4 : Nat} {p : Pg} (hr : Sv wx b4 0 0 0 none 0 0) (hk : Keep (fun _ => False) w wx) (hb : w.heap.size ≤ b4) :
    ∃ w', (Instr.storeAt 36 (.pointer (some ⟨b4, 0, none⟩)) (.agg #[.int .i64 p.kind, .int .u32 p.ep, .int .u32 p.gr, .slice none 0 0])).run Try.prog wx = .ok () w' ∧ Keep (fun _ => False) w w' ∧ (Go.loadVar 36 ⟨b4, 0, none⟩).run Try.prog w' = .ok (.agg #[.int .i64 p.kind, .int .u32 p.ep, .int .u32 p.gr, .slice none 0 0]) w' := by
  obtain ⟨w', h1, h2, h3⟩ := hr.over p.kind p.ep p.gr none 0 0
  exact ⟨w', h1, hk.next h3 (fun x hx e => by omega), h2.loadVar⟩
/-- The answer is laid. -/
theorem Wst.answer {w wx : World} {b3 b4 b6 bh bb n : Nat} {p : Pg} {hv : Nat → Bool} {bf : Nat → Int} (h : Wst w wx b3 b4 b6 bh bb n p hv bf) :
    ∃ w', (Instr.storeAt 36 (.pointer (some ⟨b4, 0, none⟩)) (.agg #[.int .i64 p.kind, .int .u32 p.ep, .int .u32 p.gr, .slice none 0 0])).run Try.prog wx = .ok () w' ∧ Keep (fun _ => False) w w' ∧ (Go.loadVar 36 ⟨b4, 0, none⟩).run Try.prog w' = .ok (.agg #[.int .i64 p.kind, .int .u32 p.ep, .int .u32 p.gr, .slice none 0 0]) w' := by
  obtain ⟨w', h1, h2, h3⟩ := h.res.over p.kind p.ep p.gr none 0 0
  have ho := h.ord
  exact ⟨w', h1, h.keep.next h3 (fun x hx e => by omega), h2.loadVar⟩
/-- What whole answers: the stream of that three, or that there is none. -/
def WhP (l : List Pg) (p : Pg) (w : World) (e : Ending) (w' : World) : Prop :=
  (∃ a' n' c' b, e = .returned (.tuple #[.agg #[.int .i64 p.kind, .int .u32 p.ep, .int .u32 p.gr, .slice a' n' c'], .bool true]) ∧ Row w' a' n' c' b ∧ Whole l ⟨p.kind, p.ep, p.gr, b⟩ ∧ (∀ x : Addr, a' = some x → w.heap.size ≤ x.block ∧ x.block < w'.heap.size) ∧ Keep (fun _ => False) w w') ∨ (e = .returned (.tuple #[.agg #[.int .i64 p.kind, .int .u32 p.ep, .int .u32 p.gr, .slice none 0 0], .bool false]) ∧ NoW l p ∧ Keep (fun _ => False) w w')
/-- Have two pages the same three, as a test. -/
def smB (q p : Pg) : Bool := decide (q.kind = p.kind ∧ q.ep = p.ep ∧ q.gr = p.gr)
theorem smB_iff {q p : Pg} : smB q p = true ↔ sameP q p := by unfold smB sameP; rw [decide_eq_true_iff]
theorem smB_no {q p : Pg} (h : ahB q p = true ∨ ahB p q = true) : smB q p = false := by
  refine Bool.eq_false_iff.2 (fun e => ?_)
  have := ah_same.2 (smB_iff.1 e)
  rw [this.1, this.2] at h
  simp at h
theorem smB_yes {q p : Pg} (h1 : ahB q p = false) (h2 : ahB p q = false) : smB q p = true := smB_iff.2 (ah_same.1 ⟨h1, h2⟩)
theorem slice_first (w : World) {bb L M : Nat} (h : L ≤ M) : (Instr.sliceAt 28 (.slice (some ⟨bb, 0, none⟩) M M) none (some (.int .u32 (L : Int))) none).run Try.prog w = .ok (.slice (some ⟨bb, 0, none⟩) L M) w := by
  obtain ⟨i, hi, hz0, hz1, hz2⟩ := info_parts info5
  simp [Instr.sliceAt, Instr.slice, Instr.sliceBounds, Instr.sliceBound, run_underlying Try.underlying28, sizeOf, typeInfo, hi, asIntOf, h, Addr.add]
/-- The stream is laid as the answer. -/
theorem Wst.final {w wx : World} {b3 b4 b6 bh bb n L M : Nat} {p : Pg} {hv : Nat → Bool} {bf : Nat → Int} (h : Wst w wx b3 b4 b6 bh bb n p hv bf) (hM : n * 32 = M) (hL : L ≤ M) (hM2 : M ≤ 65536) (hb : ∀ x, 0 ≤ bf x ∧ bf x ≤ 255) :
    Sv (wx.setCell ⟨b6, 3, none⟩ (.slice (some ⟨bb, 0, none⟩) L M)) b6 p.kind p.ep p.gr (some ⟨bb, 0, none⟩) L M ∧ ∃ w', (Instr.storeAt 36 (.pointer (some ⟨b4, 0, none⟩)) (.agg #[.int .i64 p.kind, .int .u32 p.ep, .int .u32 p.gr, .slice (some ⟨bb, 0, none⟩) L M])).run Try.prog (wx.setCell ⟨b6, 3, none⟩ (.slice (some ⟨bb, 0, none⟩) L M)) = .ok () w' ∧ Keep (fun _ => False) w w' ∧
      (Go.loadVar 36 ⟨b4, 0, none⟩).run Try.prog w' = .ok (.agg #[.int .i64 p.kind, .int .u32 p.ep, .int .u32 p.gr, .slice (some ⟨bb, 0, none⟩) L M]) w' ∧ Row w' (some ⟨bb, 0, none⟩) L M ((List.range L).map bf) ∧ bb < w'.heap.size := by
  have ho := h.ord
  have k1 : Keep (fun b => b = b6) wx (wx.setCell ⟨b6, 3, none⟩ (.slice (some ⟨bb, 0, none⟩) L M)) := (Keep.refl (fun b => b = b6) wx).setCell (Or.inl rfl) _
  have R1 : Sv (wx.setCell ⟨b6, 3, none⟩ (.slice (some ⟨bb, 0, none⟩) L M)) b4 0 0 0 none 0 0 := Blk.keep h.res k1 (by omega)
  obtain ⟨w', h1, h2, h3⟩ := R1.over p.kind p.ep p.gr (some ⟨bb, 0, none⟩) L M
  refine ⟨Blk.congr (Blk.set h.st 3 _) (fun i hi => by rcases (by omega : i = 0 ∨ i = 1 ∨ i = 2 ∨ i = 3) with rfl | rfl | rfl | rfl <;> rfl), w', h1, (h.keep.next k1 (fun x hx e => by omega)).next h3 (fun x hx e => by omega), h2.loadVar, ?_⟩
  have B1 := (h.byt.keep k1 (by omega)).keep h3 (by omega)
  have := Blk.row B1 hb 0 L M (by omega) hL (by omega)
  refine ⟨by simpa [tab] using this, B1.lt (by have := h.pos; omega)⟩
set_option maxRecDepth 100000 in
set_option maxHeartbeats 2000000 in
theorem rwhole_any {w : World} {a : Option Addr} {cap : Nat} {l : List Pg} {p : Pg} (hR : Rg w a cap l) (hok : ∀ q ∈ l, q.Ok) (hp : p ∈ l) (hK : p.kind = 2 ∨ p.kind = 3) :
    Calls Try.prog 24 #[.slice a l.length cap, .agg (pgA p)] w fun e w' => WhP l p w e w' := by
  have hlc := hR.1
  have hlc2 := hR.2.1
  have hpo := hok p hp
  have b1 := hpo.lba
  have b2 := hpo.tot
  have hsz1 := pgA_size p
  have P1 := Pv.new w p
  have S2 := Sv.new (w.alloc (.cells (pgA p) 33)) 0 0 0 none 0 0
  have S3 := Sv.new ((w.alloc (.cells (pgA p) 33)).alloc (.cells #[.int .i64 0, .int .u32 0, .int .u32 0, .slice none 0 0] 36)) p.kind p.ep p.gr none 0 0
  have e1 : (w.alloc (.cells (pgA p) 33)).heap.size = w.heap.size + 1 := by simp
  have e2 : ((w.alloc (.cells (pgA p) 33)).alloc (.cells #[.int .i64 0, .int .u32 0, .int .u32 0, .slice none 0 0] 36)).heap.size = w.heap.size + 1 + 1 := by simp
  rw [e1] at S2
  rw [e2] at S3
  have P2 : Pv ((w.alloc (.cells (pgA p) 33)).alloc (.cells #[.int .i64 0, .int .u32 0, .int .u32 0, .slice none 0 0] 36)) w.heap.size p := P1.more ((Keep.refl _ _).alloc _)
  have x0 := P2.kind
  have x3 := P2.ep
  have x4 := P2.gr
  have hk3 := (Keep.refl (fun _ => False) ((w.alloc (.cells (pgA p) 33)).alloc (.cells #[.int .i64 0, .int .u32 0, .int .u32 0, .slice none 0 0] 36))).alloc (.cells #[.int .i64 p.kind, .int .u32 p.ep, .int .u32 p.gr, .slice none 0 0] 36)
  have P3 := P2.more hk3
  have S2' : Sv _ _ _ _ _ _ _ _ := Blk.keep S2 hk3 (fun e => e)
  have K3 := (((Keep.refl (fun _ => False) w).alloc (.cells (pgA p) 33)).alloc (.cells #[.int .i64 0, .int .u32 0, .int .u32 0, .slice none 0 0] 36)).alloc (.cells #[.int .i64 p.kind, .int .u32 p.ep, .int .u32 p.gr, .slice none 0 0] 36)
  have y1 := P3.lba
  have y6 := P3.tot
  clear P1 P2 S2 hk3
  have hA : Hid (pgA p = pgA p) := rfl
  have hpr := fun w' => rpages_any (n := p.lba) w'
  generalize hAA : pgA p = A at P3 S2' S3 K3 e1 e2 hsz1 x0 x3 x4 y1 y6
  generalize hb3 : w.heap.size = b3 at P3 S2' S3 K3 e1 e2 x0 x3 x4 y1 y6
  go_enter Try.func24, Try.ntmps24
  go_upto_region 2 with fail
  clear x0 x3 x4 e1 e2 hsz1
  generalize ((w.alloc (.cells A 33)).alloc (.cells #[.int .i64 0, .int .u32 0, .int .u32 0, .slice none 0 0] 36)).alloc (.cells #[.int .i64 p.kind, .int .u32 p.ep, .int .u32 p.gr, .slice none 0 0] 36) = w3 at P3 S2' S3 K3 y1 y6
  have hlt3 := Blk.lt S3 (by omega)
  have f6 : IntKind.i64.wrap p.tot = p.tot := wrapI (by omega) (by omega)
  have f1 : IntKind.i64.wrap p.lba = p.lba := wrapI (by omega) (by omega)
  have z0 := S3.c0
  have z1 := S3.c1
  have z2 := S3.c2
  have z3 := S3.c3
  by_cases c1 : 65536 < p.lba
  · have hno := no_lba hp c1
    have d1 : decide (65536 < p.lba) = true := decide_eq_true c1
    go_quiet (fail)
    obtain ⟨wz, hst, kz, hlv⟩ := answer0 (p := p) (Blk.keep S2' ((Keep.refl (fun _ => False) w3).drewN nq) (fun e => e)) (K3.drewN nq) (by omega)
    go_wp2_with (guard_target =~ wpList _ _ _ (Oper.mk _ (Op.store 36 _ _) _ _ _ _ :: _) _ _; refine wpList_store_run rfl 36 (.tmp 4) (.tmp 36) rfl (by rfl) (by rfl) hst ?_)
    refine bodyPost_ret (v := .tuple #[.agg #[.int .i64 p.kind, .int .u32 p.ep, .int .u32 p.gr, .slice none 0 0], .bool false]) ?_ rfl (show WhP l p w _ wz from Or.inr ⟨rfl, hno, kz⟩)
    rw [results_cell_tmp rfl]
    simp [asAddr, Result.andThen, hlv]
  have d1 : decide (65536 < p.lba) = false := decide_eq_false c1
  by_cases c2 : p.tot = npI p.lba
  · have d2 : (p.tot != npI p.lba) = false := by simp [c2]
    go_quiet ((go_at_call 11; exact Calls.quiet_of_same (hpr _)))
    obtain ⟨L, hL⟩ := Int.eq_ofNat_of_zero_le b1.1
    obtain ⟨n, hn⟩ := Int.eq_ofNat_of_zero_le b2.1
    have hL2 : L ≤ 65536 := by omega
    have hnp : npg L = n := by rw [hL, npI_nat hL2] at c2; omega
    have hn1 : 1 ≤ n := by rw [← hnp]; exact npg_pos L
    have hn2 : n ≤ 2048 := by rw [← hnp]; exact npg_max hL2
    have hLn : L ≤ 32 * n := by rw [← hnp]; exact npg_le L
    have k4 := (Keep.refl (fun _ => False) w3).drewN nq
    have P4 := P3.more k4
    have R4 : Sv _ _ _ _ _ _ _ _ := Blk.keep S2' k4 (fun e => e)
    have S4 : Sv _ _ _ _ _ _ _ _ := Blk.keep S3 k4 (fun e => e)
    have K4 := K3.trans k4
    have hlt4 : b3 + 1 + 1 < (w3.drewN nq).heap.size := hlt3
    clear hpr P3 S2' S3 K3 y1 y6 k4 z0 z1 z2 z3 c2 d2 c1 d1 f1 hlt3
    generalize w3.drewN nq = w4 at P4 R4 S4 K4 hlt4
    have y6 := P4.tot
    rw [hn] at y6 f6
    have hmk1 := make_bools n (by omega) w4
    have hmk2 := make_bytes (n * 32) (by omega) (w4.alloc (.cells (madeCells #[.bool false] n) 4))
    have e5 : (w4.alloc (.cells (madeCells #[.bool false] n) 4)).heap.size = w4.heap.size + 1 := by simp
    rw [e5] at hmk2
    have f7 : IntKind.i64.wrap ((n : Int) * 32) = ((n * 32 : Nat) : Int) := by rw [IntKind.wrap_i64]; omega
    have H5 := blk_made w4 (.bool false) 4 n
    have B5 := blk_made (w4.alloc (.cells (madeCells #[.bool false] n) 4)) (.int .u8 0) 5 (n * 32)
    rw [e5] at B5
    have ka := (Keep.refl (fun _ => False) w4).alloc (.cells (madeCells #[.bool false] n) 4)
    have kb := ka.alloc (.cells (madeCells #[.int .u8 0] (n * 32)) 5)
    have W5 : Wst w ((w4.alloc (.cells (madeCells #[.bool false] n) 4)).alloc (.cells (madeCells #[.int .u8 0] (n * 32)) 5)) b3 (b3 + 1) (b3 + 1 + 1) w4.heap.size (w4.heap.size + 1) n p (fun _ => false) (fun _ => 0) :=
      ⟨P4.more kb, Blk.keep R4 kb (fun e => e), Blk.keep S4 kb (fun e => e), H5.keep ((Keep.refl (fun _ => False) _).alloc _) (fun e => e), B5, K4.trans kb, by omega, by omega⟩
    clear H5 B5 ka kb P4 R4 S4 K4 e5 hlt4
    generalize hbh : w4.heap.size = bh at W5 hmk1 hmk2
    generalize hbb : bh + 1 = bb at W5 hmk2
    generalize hb4 : b3 + 1 = b4 at W5
    generalize hb6 : b4 + 1 = b6 at W5
    generalize hM : n * 32 = M at hmk2 f7 W5
    go_wp2_with fail
    generalize (w4.alloc (.cells (madeCells #[.bool false] n) 4)).alloc (.cells (madeCells #[.int .u8 0] M) 5) = w5 at W5
    have hL' : Hid (p.lba = (L : Int)) := hL
    have hn' : Hid (p.tot = (n : Int)) := hn
    have hM' : Hid (n * 32 = M) := hM
    have hnp' : Hid (npg L = n) := hnp
    have hA' : Hid (pgA p = A) := hAA
    clear hL hn hM hnp hAA hbh hbb hb4 hb6 hb3 hmk1 hmk2 f7 y6 f6 hA
    go_loopw [10] (fun v wx => ∃ (i : Nat) (hv : Nat → Bool) (bf : Nat → Int), i ≤ l.length ∧ v = .int .i64 (i : Int) ∧ Wst w wx b3 b4 b6 bh bb n p hv bf ∧ Hid (Seen (l.take i) p n hv bf)) (fun v _ => l.length - (intOf v).toNat)
    case atStart => exact ⟨0, fun _ => false, fun _ => 0, by omega, rfl, W5, by rw [List.take_zero]; exact Seen.start p n⟩
    case round =>
      clear W5
      obtain ⟨i, hv, bf, hi, rfl, W, hS⟩ := hrel
      by_cases hlt : i < l.length
      · obtain ⟨q, hq⟩ := get_pg hlt
        have hqm := List.mem_of_getElem? hq
        have hqo := hok q hqm
        obtain ⟨g, o, rfl, hc⟩ := (hR.more W.keep).at hq
        have hld := pg_load hc
        have hnext : l.take (i + 1) = l.take i ++ [q] := by rw [List.take_add_one, hq]; rfl
        have hnext' : Hid (l.take (i + 1) = l.take i ++ [q]) := hnext
        have hsub : Hid (∀ x ∈ l.take i, x ∈ l) := fun x hx => List.mem_of_mem_take hx
        obtain ⟨w6, hst, Q6, K6⟩ := (Pv.new wr pg0).over q
        have hlw := W.lt
        have W6 := (W.more ((Keep.refl (fun _ => False) wr).alloc (.cells (pgA pg0) 33))).past K6 (fun x e => by omega)
        rw [pg0_lit] at hst
        have di : (i : Int) < (l.length : Int) := by omega
        have dw := wrapI (x := (i : Int) + 1) (by omega) (by omega)
        have hlt' : Hid (i < l.length) := hlt
        have hbq : Hid (bb < wr.heap.size) := hlw
        clear hnext hlt hq hc W K6 hlw
        generalize hbqe : wr.heap.size = bq at Q6 hst hbq
        have hAq : Hid (pgA q = pgA q) := rfl
        go_upto_region 11 with (first | (guard_target =~ wpList _ _ _ (Oper.mk _ (Op.load 33 _) _ _ _ _ :: _) _ _; refine wpList_load_run (by rfl) 33 (.tmp 53) rfl (by rfl) hld ?_) | (guard_target =~ wpList _ _ _ (Oper.mk _ (Op.store 33 _ _) _ _ _ _ :: _) _ _; refine wpList_store_run rfl 33 (.tmp 11) (.tmp 54) rfl (by rfl) (by rfl) hst ?_))
        clear hld hst
        simp only [Act.put]
        go_cut [72] from 45 to 131 (fun v wx => v = .bool (!smB q p) ∧ Wst w wx b3 b4 b6 bh bb n p hv bf ∧ Pv wx bq q)
        case first =>
          have hlq := Q6.load
          have hlp := W6.pp.load
          have c1 := ahead_any q p w6
          go_wp2_with (first | (guard_target =~ wpList _ _ _ (Oper.mk _ (Op.load 33 _) _ _ _ _ :: _) _ _; refine wpList_load_run (by rfl) 33 (.tmp 11) rfl (by rfl) hlq ?_) | (guard_target =~ wpList _ _ _ (Oper.mk _ (Op.load 33 _) _ _ _ _ :: _) _ _; refine wpList_load_run (by rfl) 33 (.tmp 3) rfl (by rfl) hlp ?_))
          refine c1.mono ?_
          rintro e w7 ⟨rfl, k7⟩
          have W7 := W6.more k7
          have Q7 := Q6.more k7
          cases h1 : ahB q p with
          | true =>
            have hsm := smB_no (Or.inl h1)
            clear hlq hlp c1 h1
            go_wp2_with fail
            go_meet
            exact ⟨by rw [hsm]; rfl, W7, Q7⟩
          | false =>
            have hlq7 := Q7.load
            have hlp7 := W7.pp.load
            have c2 := ahead_any p q w7
            clear hlq hlp c1
            go_wp2_with (first | (guard_target =~ wpList _ _ _ (Oper.mk _ (Op.load 33 _) _ _ _ _ :: _) _ _; refine wpList_load_run (by rfl) 33 (.tmp 11) rfl (by rfl) hlq7 ?_) | (guard_target =~ wpList _ _ _ (Oper.mk _ (Op.load 33 _) _ _ _ _ :: _) _ _; refine wpList_load_run (by rfl) 33 (.tmp 3) rfl (by rfl) hlp7 ?_))
            refine c2.mono ?_
            rintro e w8 ⟨rfl, k8⟩
            have W8 := W7.more k8
            have Q8 := Q7.more k8
            cases h2 : ahB p q with
            | true =>
              have hsm := smB_no (Or.inr h2)
              clear hlq7 hlp7 c2 h1 h2
              go_wp2_with fail
              go_meet
              exact ⟨by rw [hsm]; rfl, W8, Q8⟩
            | false =>
              have hsm := smB_yes h1 h2
              have hkd := (smB_iff.1 hsm).1
              have qk := Q8.kind
              clear hlq7 hlp7 c2 h1 h2
              rcases (show q.kind = 2 ∨ q.kind = 3 by omega) with h3 | h3
              · have g1 : (q.kind != 2) = false := by simp [h3]
                clear h3 hkd
                go_wp2_with fail
                go_meet
                exact ⟨by rw [hsm]; rfl, W8, Q8⟩
              · have g1 : (q.kind != 2) = true := by simp [h3]
                have g2 : (q.kind != 3) = false := by simp [h3]
                clear h3 hkd
                go_wp2_with fail
                go_meet
                exact ⟨by rw [hsm]; rfl, W8, Q8⟩
        case rest =>
          obtain ⟨rfl, W8, Q8⟩ := hcut
          clear W6 Q6
          cases hsm : smB q p with
          | false =>
            have hS2 : Hid (Seen (l.take (i + 1)) p n hv bf) := by
              rw [show l.take (i + 1) = _ from hnext']
              exact Seen.skip hS (fun e => by rw [smB_iff.2 e] at hsm; cases hsm)
            clear hsm Q8
            go_wp2_with fail
            go_roundw
            case rel => exact ⟨i + 1, hv, bf, hlt', by go_num, W8, hS2⟩
            case measure => have : i < l.length := hlt'; simp [intOf]; omega
          | true =>
            have hsp := smB_iff.1 hsm
            have qa := Q8.lba
            have qb := Q8.ix
            have qc := Q8.tot
            have v1 := W8.pp.lba
            have v6 := W8.pp.tot
            clear hsm
            have hsp' : Hid (sameP q p) := hsp
            by_cases d1 : q.lba = p.lba
            · have e1 : (q.lba != p.lba) = false := by simp [d1]
              by_cases d2 : q.tot = p.tot
              · have e2 : (q.tot != p.tot) = false := by simp [d2]
                by_cases d3 : p.tot ≤ q.ix
                · have hno := no_q hp hqm hsp (Or.inr (Or.inr d3))
                  have z0 := W8.st.c0
                  have z1 := W8.st.c1
                  have z2 := W8.st.c2
                  have z3 := W8.st.c3
                  obtain ⟨wz, hst, kz, hlv⟩ := W8.answer
                  clear d1 d2 hsp
                  go_wp2_with (guard_target =~ wpList _ _ _ (Oper.mk _ (Op.store 36 _ _) _ _ _ _ :: _) _ _; refine wpList_store_run rfl 36 (.tmp 4) (.tmp 92) rfl (by rfl) (by rfl) hst ?_)
                  refine bodyPost_ret (v := .tuple #[.agg #[.int .i64 p.kind, .int .u32 p.ep, .int .u32 p.gr, .slice none 0 0], .bool false]) ?_ rfl (show WhP l p w _ wz from Or.inr ⟨rfl, hno, kz⟩)
                  rw [results_cell_tmp rfl]
                  simp [asAddr, Result.andThen, hlv]
                · have hd1 : Hid (q.lba = p.lba) := d1
                  have hd2 : Hid (q.tot = p.tot) := d2
                  have hd3 : Hid (q.ix < p.tot) := by show _ < _; omega
                  obtain ⟨k, hk⟩ := Int.eq_ofNat_of_zero_le hqo.ix.1
                  have hkn : k < n := by have := show p.tot = (n : Int) from hn'; omega
                  have f5 : IntKind.i64.wrap q.ix = (k : Int) := by rw [hk]; exact wrapI (by omega) (by omega)
                  have hk' : Hid (q.ix = (k : Int)) := hk
                  clear d1 d2 hsp hk
                  obtain ⟨m, hm⟩ : ∃ m : Nat, m = 32 * k := ⟨_, rfl⟩
                  have f7 : IntKind.i64.wrap ((k : Int) * 32) = (m : Int) := by rw [IntKind.wrap_i64]; omega
                  have hm' : Hid (m = 32 * k) := hm
                  have hmn : m + 32 ≤ M := by have := show n * 32 = M from hM'; omega
                  have hM2 : M ≤ 65536 := by have := show n * 32 = M from hM'; omega
                  have hmk : k < n := hkn
                  clear hm
                  have W8' : Wst w wc b3 b4 b6 bh bb n p hv (layB bf q k 0) := by
                    have e : layB bf q k 0 = bf := by funext x; unfold layB; rw [if_neg (by omega)]
                    rw [e]; exact W8
                  clear W8
                  go_wp2_with fail
                  go_loopw [13] (fun v wx => ∃ j : Nat, j ≤ 32 ∧ v = .int .i64 (j : Int) ∧ Wst w wx b3 b4 b6 bh bb n p hv (layB bf q k j) ∧ Pv wx bq q ∧ Hid (hv k = true → ∀ j', j' < j → bf (32 * k + j') = q.pay.getD j' 0)) (fun v _ => 32 - (intOf v).toNat)
                  case atStart => exact ⟨0, by omega, rfl, W8', Q8, fun _ j' h => by omega⟩
                  case round =>
                    clear W8' Q8 qa qb qc v1 v6 e1 e2 d3 f5
                    obtain ⟨j, hj, rfl, W9, Q9, hsame⟩ := hrel
                    by_cases hj2 : j < 32
                    · have dj : (j : Int) < 32 := by omega
                      have dw2 := wrapI (x := (j : Int) + 1) (by omega) (by omega)
                      obtain ⟨x, hx⟩ : ∃ x : Nat, x = m + j := ⟨_, rfl⟩
                      have f8 : IntKind.i64.wrap ((m : Int) + (j : Int)) = (x : Int) := by rw [IntKind.wrap_i64]; omega
                      have hxM : x < M := by omega
                      have hxi : (x : Int) < (M : Int) := by omega
                      have hki : (k : Int) < (n : Int) := by omega
                      have hx' : Hid (x = 32 * k + j) := by show x = _; rw [hx, show m = 32 * k from hm']
                      have hxn : x < n * 32 := by rw [show n * 32 = M from hM']; exact hxM
                      have cb : wr.cell? ⟨bb, x, none⟩ = some (.int .u8 (layB bf q k j x)) := (W9.byt x hxn).1
                      have cbf := (W9.byt x hxn).2
                      have ch : wr.cell? ⟨bh, k, none⟩ = some (.bool (hv k)) := (W9.hav k hmk).1
                      have cp := Q9.pay hj2
                      have hlx : layB bf q k j x = bf x := by
                        unfold layB
                        rw [if_neg (by have := show x = 32 * k + j from hx'; omega)]
                      have mk : ∀ wz, Keep (fun _ => False) wr wz → Wst w (wz.setCell ⟨bb, x, none⟩ (.int .u8 (q.pay.getD j 0))) b3 b4 b6 bh bb n p hv (layB bf q k (j + 1)) ∧ Pv (wz.setCell ⟨bb, x, none⟩ (.int .u8 (q.pay.getD j 0))) bq q ∧ wz.cell? ⟨bb, x, none⟩ = some (.int .u8 (bf x)) ∧ wz.frozen? ⟨bb, x, none⟩ = false ∧ wz.cell? ⟨bq, 7 + j, none⟩ = some (.int .u8 (q.pay.getD j 0)) := fun wz kz => by
                        have W9z := W9.more kz
                        have Q9z := Q9.more kz
                        refine ⟨W9z.setB (bf' := layB bf q k (j + 1)) x (q.pay.getD j 0) (fun y hy => ?_), Blk.other Q9z (by show bq ≠ bb; have : bb < bq := hbq; omega) _, by rw [← hlx]; exact (W9z.byt x hxn).1, (W9z.byt x hxn).2, Q9z.pay hj2⟩
                        have hxe := show x = 32 * k + j from hx'
                        unfold layB
                        by_cases c1 : y = x
                        · rw [if_pos (by omega), if_pos c1, show y - 32 * k = j by omega]
                        · rw [if_neg c1]
                          by_cases c2 : 32 * k ≤ y ∧ y < 32 * k + j
                          · rw [if_pos c2, if_pos (by omega)]
                          · rw [if_neg c2, if_neg (by omega)]
                      have hj1 : Hid (j + 1 ≤ 32) := hj2
                      clear hx
                      rcases (show hv k = false ∨ hv k = true by cases hv k <;> simp) with hh | hh
                      · rw [hh] at ch
                        have hs2 : Hid (hv k = true → ∀ j', j' < j + 1 → bf (32 * k + j') = q.pay.getD j' 0) := fun e => by rw [hh] at e; cases e
                        clear hh
                        clear W9 Q9 hsame
                        go_wp2_with fail
                        go_quiet (fail)
                        obtain ⟨W10, Q10, cb2, cf2, cp2⟩ := mk _ ((Keep.refl (fun _ => False) wr).drewN nq)
                        clear mk cb cp ch hlx hxn cbf
                        generalize wr.drewN nq = wq at W10 Q10 cb2 cf2 cp2
                        generalize q.pay.getD j 0 = V at cp2 W10 Q10
                        go_wp2_with fail
                        go_roundw
                        case rel => exact ⟨j + 1, hj1, by go_num, W10, Q10, hs2⟩
                        case measure => have : j + 1 ≤ 32 := hj1; simp [intOf]; omega
                      · rw [hh] at ch
                        by_cases hb : bf x = q.pay.getD j 0
                        · have hs2 : Hid (hv k = true → ∀ j', j' < j + 1 → bf (32 * k + j') = q.pay.getD j' 0) := fun e j' hj' => by
                            by_cases c : j' = j
                            · subst c; rw [← show x = 32 * k + j' from hx']; exact hb
                            · exact (show hv k = true → ∀ j', j' < j → bf (32 * k + j') = q.pay.getD j' 0 from hsame) e j' (by omega)
                          rw [hlx, hb] at cb
                          have hbn : (q.pay.getD j 0 != q.pay.getD j 0) = false := by simp
                          clear hh
                          clear W9 Q9 hsame hb
                          go_wp2_with fail
                          go_quiet (fail)
                          obtain ⟨W10, Q10, cb2, cf2, cp2⟩ := mk _ ((Keep.refl (fun _ => False) wr).drewN nq)
                          clear mk cb cp ch hlx hxn cbf hbn
                          generalize wr.drewN nq = wq at W10 Q10 cb2 cf2 cp2
                          generalize q.pay.getD j 0 = V at cp2 W10 Q10
                          go_wp2_with fail
                          go_roundw
                          case rel => exact ⟨j + 1, hj1, by go_num, W10, Q10, hs2⟩
                          case measure => have : j + 1 ≤ 32 := hj1; simp [intOf]; omega
                        · obtain ⟨q', hq', hsq', hix'⟩ := (show Seen (l.take i) p n hv bf from hS).back k hmk hh
                          have hpay' := ((show Seen (l.take i) p n hv bf from hS).has q' hq' hsq' k hix').2 j hj2
                          have hno : NoW l p := no_pay hqm hsp' ((show ∀ x ∈ l.take i, x ∈ l from hsub) q' hq') hsq' (by rw [show q.ix = (k : Int) from hk', hix']) (j := j) (by rw [← hpay', ← show x = 32 * k + j from hx']; exact fun e => hb e.symm)
                          have hbb : (bf x != q.pay.getD j 0) = true := bne_iff_ne.2 hb
                          rw [hlx] at cb
                          clear mk hq' hsq' hix' hpay' hsame hb hh hlx
                          generalize q.pay.getD j 0 = V at cp hbb
                          go_wp2_with fail
                          go_quiet (fail)
                          have W11 := W9.more ((Keep.refl (fun _ => False) wr).drewN nq)
                          have z0 := W11.st.c0
                          have z1 := W11.st.c1
                          have z2 := W11.st.c2
                          have z3 := W11.st.c3
                          obtain ⟨wz, hst, kz, hlv⟩ := W11.answer
                          clear cb cbf ch cp
                          go_wp2_with (guard_target =~ wpList _ _ _ (Oper.mk _ (Op.store 36 _ _) _ _ _ _ :: _) _ _; refine wpList_store_run rfl 36 (.tmp 4) (.tmp 118) rfl (by rfl) (by rfl) hst ?_)
                          refine bodyPost_ret (v := .tuple #[.agg #[.int .i64 p.kind, .int .u32 p.ep, .int .u32 p.gr, .slice none 0 0], .bool false]) ?_ rfl (show WhP l p w _ wz from Or.inr ⟨rfl, hno, kz⟩)
                          rw [results_cell_tmp rfl]
                          simp [asAddr, Result.andThen, hlv]
                    · obtain rfl : j = 32 := by omega
                      have hS2 : Hid (Seen (l.take (i + 1)) p n (fun y => if y = k then true else hv y) (layB bf q k 32)) := by
                        rw [show l.take (i + 1) = _ from hnext']
                        exact Seen.take hS hsp' hqo hk' hd1 hd2 hd3 hsame
                      have W10 := W9.setH k
                      have ch : wr.cell? ⟨bh, k, none⟩ = some (.bool (hv k)) := (W9.hav k hmk).1
                      have chf := (W9.hav k hmk).2
                      have hki : (k : Int) < (n : Int) := by omega
                      clear hsame W9 Q9 hj
                      go_wp2_with fail
                      go_roundw
                      case rel => exact ⟨i + 1, _, _, hlt', by go_num, W10, hS2⟩
                      case measure => have : i < l.length := hlt'; simp [intOf]; omega
              · have e2 : (q.tot != p.tot) = true := by simp [d2]
                have hno := no_q hp hqm hsp (Or.inr (Or.inl d2))
                have z0 := W8.st.c0
                have z1 := W8.st.c1
                have z2 := W8.st.c2
                have z3 := W8.st.c3
                obtain ⟨wz, hst, kz, hlv⟩ := W8.answer
                clear d1 d2 hsp
                go_wp2_with (guard_target =~ wpList _ _ _ (Oper.mk _ (Op.store 36 _ _) _ _ _ _ :: _) _ _; refine wpList_store_run rfl 36 (.tmp 4) (.tmp 92) rfl (by rfl) (by rfl) hst ?_)
                refine bodyPost_ret (v := .tuple #[.agg #[.int .i64 p.kind, .int .u32 p.ep, .int .u32 p.gr, .slice none 0 0], .bool false]) ?_ rfl (show WhP l p w _ wz from Or.inr ⟨rfl, hno, kz⟩)
                rw [results_cell_tmp rfl]
                simp [asAddr, Result.andThen, hlv]
            · have e1 : (q.lba != p.lba) = true := by simp [d1]
              have hno := no_q hp hqm hsp (Or.inl d1)
              have z0 := W8.st.c0
              have z1 := W8.st.c1
              have z2 := W8.st.c2
              have z3 := W8.st.c3
              obtain ⟨wz, hst, kz, hlv⟩ := W8.answer
              clear d1 hsp
              go_wp2_with (guard_target =~ wpList _ _ _ (Oper.mk _ (Op.store 36 _ _) _ _ _ _ :: _) _ _; refine wpList_store_run rfl 36 (.tmp 4) (.tmp 92) rfl (by rfl) (by rfl) hst ?_)
              refine bodyPost_ret (v := .tuple #[.agg #[.int .i64 p.kind, .int .u32 p.ep, .int .u32 p.gr, .slice none 0 0], .bool false]) ?_ rfl (show WhP l p w _ wz from Or.inr ⟨rfl, hno, kz⟩)
              rw [results_cell_tmp rfl]
              simp [asAddr, Result.andThen, hlv]
      · obtain rfl : i = l.length := by omega
        have hS2 : Seen l p n hv bf := by have := show Seen (l.take l.length) p n hv bf from hS; rwa [List.take_length] at this
        have hS3 : Hid (Seen l p n hv bf) := hS2
        clear hS hS2 hlt hi
        go_wp2_with fail
        go_loopw [14] (fun v wx => ∃ t : Nat, t ≤ n ∧ v = .int .i64 (t : Int) ∧ Wst w wx b3 b4 b6 bh bb n p hv bf ∧ Hid (∀ k, k < t → hv k = true)) (fun v _ => n - (intOf v).toNat)
        case atStart => exact ⟨0, by omega, rfl, W, fun k h => by omega⟩
        case round =>
          clear W
          obtain ⟨t, ht, rfl, W1, hall⟩ := hrel
          by_cases htn : t < n
          · have dt : (t : Int) < (n : Int) := by omega
            have dwt := wrapI (x := (t : Int) + 1) (by omega) (by omega)
            have ct : wr.cell? ⟨bh, t, none⟩ = some (.bool (hv t)) := (W1.hav t htn).1
            have htn' : Hid (t < n) := htn
            rcases (show hv t = false ∨ hv t = true by cases hv t <;> simp) with hh | hh
            · rw [hh] at ct
              have hno : NoW l p := no_ix hp (k := t) (by rw [show p.tot = (n : Int) from hn']; omega) (fun q hq hs e => by
                have := ((show Seen l p n hv bf from hS3).has q hq hs t e).1
                rw [hh] at this
                cases this)
              clear hh hall htn
              have z0 := W1.st.c0
              have z1 := W1.st.c1
              have z2 := W1.st.c2
              have z3 := W1.st.c3
              obtain ⟨wz, hst, kz, hlv⟩ := W1.answer
              go_wp2_with (guard_target =~ wpList _ _ _ (Oper.mk _ (Op.store 36 _ _) _ _ _ _ :: _) _ _; refine wpList_store_run rfl 36 (.tmp 4) (.tmp 142) rfl (by rfl) (by rfl) hst ?_)
              refine bodyPost_ret (v := .tuple #[.agg #[.int .i64 p.kind, .int .u32 p.ep, .int .u32 p.gr, .slice none 0 0], .bool false]) ?_ rfl (show WhP l p w _ wz from Or.inr ⟨rfl, hno, kz⟩)
              rw [results_cell_tmp rfl]
              simp [asAddr, Result.andThen, hlv]
            · rw [hh] at ct
              have hall2 : Hid (∀ k, k < t + 1 → hv k = true) := fun k hk => by
                by_cases c : k = t
                · subst c; exact hh
                · exact (show ∀ k, k < t → hv k = true from hall) k (by omega)
              clear hh hall htn
              go_wp2_with fail
              go_roundw
              case rel => exact ⟨t + 1, htn', by go_num, W1, hall2⟩
              case measure => have : t < n := htn'; simp [intOf]; omega
          · obtain rfl : t = n := by omega
            have v1 := W1.pp.lba
            rw [show p.lba = (L : Int) from hL'] at v1
            have f1 : IntKind.i64.wrap (L : Int) = (L : Int) := wrapI (by omega) (by omega)
            have hLM : L ≤ M := by have := show t * 32 = M from hM'; omega
            have hM2 : M ≤ 65536 := by have := show t * 32 = M from hM'; omega
            clear htn ht
            go_wp2_with fail
            go_loopw [15] (fun v wx => ∃ x : Nat, L ≤ x ∧ x ≤ M ∧ v = .int .i64 (x : Int) ∧ Wst w wx b3 b4 b6 bh bb t p hv bf ∧ Hid (∀ y, L ≤ y → y < x → bf y = 0)) (fun v _ => M - (intOf v).toNat)
            case atStart => exact ⟨L, by omega, hLM, rfl, W1, fun y h1 h2 => by omega⟩
            case round =>
              clear W1 v1
              obtain ⟨x, hx1, hx2, rfl, W2, hz⟩ := hrel
              by_cases hxM : x < M
              · have dx : (x : Int) < (M : Int) := by omega
                have dwx := wrapI (x := (x : Int) + 1) (by omega) (by omega)
                have hxn : x < t * 32 := by rw [show t * 32 = M from hM']; exact hxM
                have cx : wr.cell? ⟨bb, x, none⟩ = some (.int .u8 (bf x)) := (W2.byt x hxn).1
                by_cases hb0 : bf x = 0
                · have hz2 : Hid (∀ y, L ≤ y → y < x + 1 → bf y = 0) := fun y h1 h2 => by
                    by_cases c : y = x
                    · subst c; exact hb0
                    · exact (show ∀ y, L ≤ y → y < x → bf y = 0 from hz) y h1 (by omega)
                  have hxM' : Hid (x < M) := hxM
                  have hb1 : (bf x != 0) = false := by simp [hb0]
                  clear hb0 hz hxn
                  go_wp2_with fail
                  go_roundw
                  case rel => exact ⟨x + 1, by omega, hxM', by go_num, W2, hz2⟩
                  case measure => have : x < M := hxM'; simp [intOf]; omega
                · obtain ⟨q, hq, hs, hix⟩ := (show Seen l p t hv bf from hS3).back (x / 32) (by omega) ((show ∀ k, k < t → hv k = true from hall) (x / 32) (by omega))
                  have hpay := ((show Seen l p t hv bf from hS3).has q hq hs (x / 32) hix).2 (x % 32) (by omega)
                  rw [show 32 * (x / 32) + x % 32 = x by omega] at hpay
                  have hno : NoW l p := no_tail hp hq hs (k := x / 32) (j := x % 32) hix (by omega) (by rw [show p.lba = (L : Int) from hL', show 32 * (x / 32) + x % 32 = x by omega]; omega) (by rw [← hpay]; exact hb0)
                  have hb1 : (bf x != 0) = true := by simp [hb0]
                  clear hb0 hz hxn hpay hq hs hix
                  have z0 := W2.st.c0
                  have z1 := W2.st.c1
                  have z2 := W2.st.c2
                  have z3 := W2.st.c3
                  obtain ⟨wz, hst, kz, hlv⟩ := W2.answer
                  go_wp2_with (guard_target =~ wpList _ _ _ (Oper.mk _ (Op.store 36 _ _) _ _ _ _ :: _) _ _; refine wpList_store_run rfl 36 (.tmp 4) (.tmp 157) rfl (by rfl) (by rfl) hst ?_)
                  refine bodyPost_ret (v := .tuple #[.agg #[.int .i64 p.kind, .int .u32 p.ep, .int .u32 p.gr, .slice none 0 0], .bool false]) ?_ rfl (show WhP l p w _ wz from Or.inr ⟨rfl, hno, kz⟩)
                  rw [results_cell_tmp rfl]
                  simp [asAddr, Result.andThen, hlv]
              · obtain rfl : x = M := by omega
                have hwh := (show Seen l p t hv bf from hS3).whole hpo hok hK hL' hL2 hn' hnp' hall (fun y h1 h2 => (show ∀ y, L ≤ y → y < x → bf y = 0 from hz) y h1 (by have := show t * 32 = x from hM'; omega))
                obtain ⟨S6, wz, hst, kz, hlv, hrow, hbz⟩ := W2.final hM' hx1 hM2 (show Seen l p t hv bf from hS3).byte
                have v1 := W2.pp.lba
                rw [show p.lba = (L : Int) from hL'] at v1
                have hsl := fun w' => slice_first w' (bb := bb) hx1
                have c63 := W2.st.c3
                have c6f := (W2.st 3 (by omega)).2
                have z0 := S6.c0
                have z1 := S6.c1
                have z2 := S6.c2
                have z3 := S6.c3
                have hpost : Hid (∀ e, e = .returned (.tuple #[.agg #[.int .i64 p.kind, .int .u32 p.ep, .int .u32 p.gr, .slice (some ⟨bb, 0, none⟩) L x], .bool true]) → WhP l p w e wz) := fun e he => Or.inl ⟨_, _, _, _, he, hrow, hwh, fun x hx => (by injection hx with hx; subst hx; exact ⟨by have := W2.ord; show _ ≤ bb; omega, hbz⟩), kz⟩
                clear hwh S6 hz hall hrow kz hbz
                go_wp2_with (guard_target =~ wpList _ _ _ (Oper.mk _ (Op.store 36 _ _) _ _ _ _ :: _) _ _; refine wpList_store_run rfl 36 (.tmp 4) (.tmp 163) rfl (by rfl) (by rfl) hst ?_)
                refine bodyPost_ret (v := .tuple #[.agg #[.int .i64 p.kind, .int .u32 p.ep, .int .u32 p.gr, .slice (some ⟨bb, 0, none⟩) L x], .bool true]) ?_ rfl (hpost _ rfl)
                rw [results_cell_tmp rfl]
                simp [asAddr, Result.andThen, hlv]
  · have hno := no_tot hp c2
    have d2 : (p.tot != npI p.lba) = true := by simp [c2]
    go_quiet ((go_at_call 11; exact Calls.quiet_of_same (hpr _)))
    obtain ⟨wz, hst, kz, hlv⟩ := answer0 (p := p) (Blk.keep S2' ((Keep.refl (fun _ => False) w3).drewN nq) (fun e => e)) (K3.drewN nq) (by omega)
    go_wp2_with (guard_target =~ wpList _ _ _ (Oper.mk _ (Op.store 36 _ _) _ _ _ _ :: _) _ _; refine wpList_store_run rfl 36 (.tmp 4) (.tmp 36) rfl (by rfl) (by rfl) hst ?_)
    refine bodyPost_ret (v := .tuple #[.agg #[.int .i64 p.kind, .int .u32 p.ep, .int .u32 p.gr, .slice none 0 0], .bool false]) ?_ rfl (show WhP l p w _ wz from Or.inr ⟨rfl, hno, kz⟩)
    rw [results_cell_tmp rfl]
    simp [asAddr, Result.andThen, hlv]
end Tg
end Go.Proofs.Ytginnojbmpnleaa
