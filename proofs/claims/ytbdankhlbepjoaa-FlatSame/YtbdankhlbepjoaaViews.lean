/-
  Rows of elements of several cells, with room; what gather, Views and All answer.
-/
import Derived.Test.YtbdankhlbepjoaaMuts
namespace Go.Proofs.Ytbdankhlbepjoaa
open Go.ChangeShapes Go.WideShapes Go.ChangeAt Go.RowKit
namespace Tg

/-- A row in block G: room for N cells, the first of which are xs. -/
structure Rw (w : World) (G N : Nat) (xs : List Value) : Prop where
  cells : ∀ j u, xs[j]? = some u → w.cell? ⟨G, j, none⟩ = some u
  free : ∀ j, j < N → (w.cell? ⟨G, j, none⟩).isSome = true ∧ w.frozen? ⟨G, j, none⟩ = false

theorem Rw.keep {S : Nat → Prop} {w w' : World} {G N : Nat} {xs : List Value} (h : Rw w G N xs) (k : Keep S w w') (hs : ¬ S G) : Rw w' G N xs := by
  refine ⟨fun j u hu => ?_, fun j hj => ?_⟩
  · have := h.cells j u hu
    rw [← this]
    exact World.cell?_of_block (w := w) (a := ⟨G, j, none⟩) (k.block G (World.block_lt_of_cell? w _ this) hs)
  · obtain ⟨h1, h2⟩ := h.free j hj
    obtain ⟨v, hv⟩ := Option.isSome_iff_exists.1 h1
    have e := k.block G (World.block_lt_of_cell? w _ hv) hs
    exact ⟨by rw [World.cell?_of_block (w := w) (a := ⟨G, j, none⟩) e]; exact h1, by rw [World.frozen?_of_block (w := w) (a := ⟨G, j, none⟩) e]; exact h2⟩
theorem Rw.more {w w' : World} {G N : Nat} {xs : List Value} (h : Rw w G N xs) (k : Keep (fun _ => False) w w') : Rw w' G N xs := h.keep k (fun e => e)
set_option maxRecDepth 100000 in
theorem Rw.app {w : World} {G N : Nat} {xs : List Value} (h : Rw w G N xs) (ys : List Value) (hl : xs.length + ys.length ≤ N) : Rw (w.setCells G xs.length ys) G N (xs ++ ys) := by
  have hin := World.cell?_setCells_in G ys xs.length w (fun j hj => (h.free (xs.length + j) (by omega)).1)
  refine ⟨fun j u hu => ?_, fun j hj => ?_⟩
  · by_cases e : j < xs.length
    · rw [List.getElem?_append_left e] at hu
      rw [World.cell?_setCells_out G _ xs.length w ⟨G, j, none⟩ (fun _ _ => Or.inl e)]
      exact h.cells j u hu
    · rw [List.getElem?_append_right (by omega)] at hu
      have hj := (List.getElem?_eq_some_iff.1 hu).1
      have := hin (j - xs.length) hj
      rw [show xs.length + (j - xs.length) = j by omega] at this
      rw [this, ← hu]
      simp [hj]
  · obtain ⟨h1, h2⟩ := h.free j hj
    refine ⟨?_, by rw [World.frozen?_setCells]; exact h2⟩
    by_cases e : xs.length ≤ j ∧ j < xs.length + ys.length
    · have := hin (j - xs.length) (by omega)
      rw [show xs.length + (j - xs.length) = j by omega] at this
      rw [this]; rfl
    · rw [World.cell?_setCells_out G _ xs.length w ⟨G, j, none⟩ (fun _ _ => by simp; omega)]; exact h1

/-- A view's seven cells. -/
structure Vw where
  id : Nat
  left : Nat
  right : Nat
  h : Int
  x : Rn
def vcs (v : Vw) : List Value := [.int .u32 (v.id : Int), .int .u32 (v.left : Int), .int .u32 (v.right : Int), .int .i64 v.h, .int .i64 v.x.lba, .int .i64 v.x.len, .int .i64 v.x.phys]
def vcells (l : List Vw) : List Value := l.flatMap vcs
set_option maxRecDepth 100000 in
theorem vcells_len (l : List Vw) : (vcells l).length = l.length * 7 := by
  induction l with
  | nil => rfl
  | cons v l ih => simp only [vcells, List.flatMap_cons, List.length_append] at *; rw [ih]; simp [vcs]; omega
theorem vcells_app (l m : List Vw) : vcells (l ++ m) = vcells l ++ vcells m := by simp [vcells]
def rcs (x : Rn) : List Value := [.int .i64 x.lba, .int .i64 x.len, .int .i64 x.phys]
def rcells (l : List Rn) : List Value := l.flatMap rcs
set_option maxRecDepth 100000 in
theorem rcells_len (l : List Rn) : (rcells l).length = l.length * 3 := by
  induction l with
  | nil => rfl
  | cons v l ih => simp only [rcells, List.flatMap_cons, List.length_append] at *; rw [ih]; simp [rcs]; omega
theorem rcells_app (l m : List Rn) : rcells (l ++ m) = rcells l ++ rcells m := by simp [rcells]
/-- A tree's views. -/
def Tr.views : Tr → List Vw
  | .nil => []
  | .node i l x r => l.views ++ ⟨i, l.link, r.link, ((max l.h r.h + 1 : Nat) : Int), x⟩ :: r.views
set_option maxRecDepth 100000 in
theorem Tr.views_seq : ∀ t : Tr, t.views.map (fun v => (v.id, v.x)) = t.seq
  | .nil => rfl
  | .node i l x r => by simp [Tr.views, Tr.seq, Tr.views_seq l, Tr.views_seq r]
theorem Tr.views_len (t : Tr) : t.views.length = t.ids.length := by
  have := congrArg List.length t.views_seq
  simp [Tr.ids] at *
  exact this
theorem Tr.views_runs (t : Tr) : t.views.map (·.x) = t.runs := by
  unfold Tr.runs
  rw [← t.views_seq]; simp

set_option maxRecDepth 100000 in
theorem info51 : (Try.prog.info? 94).map (fun i => (i.zero, i.size, i.bytes)) = some (some (.agg #[.int .u32 0, .int .u32 0, .int .u32 0, .int .i64 0, .int .i64 0, .int .i64 0, .int .i64 0]), 7, 48) := by kernel_rfl
set_option maxRecDepth 100000 in
theorem info31 : (Try.prog.info? 55).map (fun i => (i.zero, i.size, i.bytes)) = some (some (.agg #[.int .i64 0, .int .i64 0, .int .i64 0]), 3, 24) := by kernel_rfl

theorem make_views (m : Nat) (hm : m ≤ 512) (w : World) : (Instr.makeSlice 91 (.int .i64 0) (.int .i64 (m : Int))).run Try.prog w =
    .ok (.slice (some ⟨w.heap.size, 0, none⟩) 0 m) (w.alloc (.cells (madeCells #[.int .u32 0, .int .u32 0, .int .u32 0, .int .i64 0, .int .i64 0, .int .i64 0, .int .i64 0] (m * 7)) 94)) := by
  obtain ⟨i, hi, hz0, hz1, hz2⟩ := info_parts info51
  have := run_make (P := Try.prog) w 91 94 i _ Try.underlying91 hi hz0 .i64 .i64 0 m (by omega) (by omega) (by rw [hz2]; omega) (by omega)
  rw [hz1] at this
  exact this
theorem make_runs (m : Nat) (hm : m ≤ 512) (w : World) : (Instr.makeSlice 49 (.int .i64 0) (.int .i64 (m : Int))).run Try.prog w =
    .ok (.slice (some ⟨w.heap.size, 0, none⟩) 0 m) (w.alloc (.cells (madeCells #[.int .i64 0, .int .i64 0, .int .i64 0] (m * 3)) 55)) := by
  obtain ⟨i, hi, hz0, hz1, hz2⟩ := info_parts info31
  have := run_make (P := Try.prog) w 49 55 i _ Try.underlying49 hi hz0 .i64 .i64 0 m (by omega) (by omega) (by rw [hz2]; omega) (by omega)
  rw [hz1] at this
  exact this
theorem rw_made (w : World) (z : Array Value) (N : Nat) (e : TypeId) : Rw (w.alloc (.cells (madeCells z N) e)) w.heap.size N [] := by
  refine ⟨fun j u hu => by simp at hu, fun j hj => ⟨?_, World.frozen?_alloc_new w _ _ _⟩⟩
  rw [World.cell?_alloc_mark]
  simp [madeCells, hj]

/-- A new block's cells. -/
theorem cells_new (w : World) (A : Array Value) (e : TypeId) : ∀ j u, A.toList[j]? = some u → (w.alloc (.cells A e)).cell? ((⟨w.heap.size, 0, none⟩ : Addr).add j) = some u := by
  intro j u hu
  rw [Addr.add_lit, Nat.zero_add, World.cell?_alloc_mark, ← Array.getElem?_toList]
  exact hu

set_option maxRecDepth 100000 in
theorem app_view {w : World} {G cap n : Nat} {xs : List Value} (h : Rw w G (cap * 7) xs) (hx : xs.length = n * 7) (hn : n < cap) (v : Vw) (A : Array Value) (hA : A.toList = vcs v) :
    ∃ w', (Builtin.append_ #[91, 91] 91 #[.slice (some ⟨G, 0, none⟩) n cap, .slice (some ⟨w.heap.size, 0, none⟩) 1 1]).run Try.prog (w.alloc (.cells A 94)) = .ok (.slice (some ⟨G, 0, none⟩) (n + 1) cap) w' ∧
      Rw w' G (cap * 7) (xs ++ vcs v) ∧ Keep (fun b => b = G) w w' := by
  obtain ⟨i, hi, hz0, hz1, hz2⟩ := info_parts info51
  have hw := h.more ((Keep.refl (fun _ => False) w).alloc (.cells A 94))
  have hnew := cells_new w A 94
  rw [hA] at hnew
  have hrun := run_append_room_cells (P := Try.prog) (w.alloc (.cells A 94)) 91 91 94 i Try.underlying91 hi G 0 n cap ⟨w.heap.size, 0, none⟩ 1 1 (vcs v) (by rw [hz1]; rfl) hnew (by intro u hu; simp [vcs] at hu; rcases hu with rfl | rfl | rfl | rfl | rfl | rfl | rfl <;> rfl) (by omega)
    (fun j hj => by rw [hz1, Nat.zero_add]; exact (hw.free (n * 7 + j) (by simp [vcs] at hj; omega)).1)
    (fun j hj => by rw [hz1, Nat.zero_add]; exact (hw.free (n * 7 + j) (by simp [vcs] at hj; omega)).2)
  rw [hz1, Nat.zero_add, ← hx] at hrun
  refine ⟨_, hrun, hw.app (vcs v) (by simp [vcs]; omega), ?_⟩
  exact ((Keep.refl (fun b => b = G) w).alloc _).setCells (b := G) (Or.inl rfl) _ _
set_option maxRecDepth 100000 in
theorem app_run {w : World} {G cap n : Nat} {xs : List Value} (h : Rw w G (cap * 3) xs) (hx : xs.length = n * 3) (hn : n < cap) (v : Rn) (A : Array Value) (hA : A.toList = rcs v) :
    ∃ w', (Builtin.append_ #[49, 49] 49 #[.slice (some ⟨G, 0, none⟩) n cap, .slice (some ⟨w.heap.size, 0, none⟩) 1 1]).run Try.prog (w.alloc (.cells A 55)) = .ok (.slice (some ⟨G, 0, none⟩) (n + 1) cap) w' ∧
      Rw w' G (cap * 3) (xs ++ rcs v) ∧ Keep (fun b => b = G) w w' := by
  obtain ⟨i, hi, hz0, hz1, hz2⟩ := info_parts info31
  have hw := h.more ((Keep.refl (fun _ => False) w).alloc (.cells A 55))
  have hnew := cells_new w A 55
  rw [hA] at hnew
  have hrun := run_append_room_cells (P := Try.prog) (w.alloc (.cells A 55)) 49 49 55 i Try.underlying49 hi G 0 n cap ⟨w.heap.size, 0, none⟩ 1 1 (rcs v) (by rw [hz1]; rfl) hnew (by intro u hu; simp [rcs] at hu; rcases hu with rfl | rfl | rfl <;> rfl) (by omega)
    (fun j hj => by rw [hz1, Nat.zero_add]; exact (hw.free (n * 3 + j) (by simp [rcs] at hj; omega)).1)
    (fun j hj => by rw [hz1, Nat.zero_add]; exact (hw.free (n * 3 + j) (by simp [rcs] at hj; omega)).2)
  rw [hz1, Nat.zero_add, ← hx] at hrun
  refine ⟨_, hrun, hw.app (rcs v) (by simp [rcs]; omega), ?_⟩
  exact ((Keep.refl (fun b => b = G) w).alloc _).setCells (b := G) (Or.inl rfl) _ _

set_option maxRecDepth 100000 in
set_option maxHeartbeats 1000000 in
theorem gather_any {b p k G cap : Nat} {s : Ar} (hb : G ≠ b) (hp : G ≠ p) (hkk : G ≠ k) : ∀ (t : Tr) {w : World} {n : Nat} {xs : List Value}, Tb w b p k s → Hang s t → Rw w G (cap * 7) xs → xs.length = n * 7 → n + t.views.length ≤ cap → G < w.heap.size →
    Calls Try.prog 64 #[.pointer (some ⟨b, 0, none⟩), .slice (some ⟨G, 0, none⟩) n cap, .int .u32 (t.link : Int)] w fun e w' => e = .returned (.slice (some ⟨G, 0, none⟩) (n + t.views.length) cap) ∧ Rw w' G (cap * 7) (xs ++ vcells t.views) ∧ Keep (fun x => x = G) w w' := by
  intro t
  induction t with
  | nil =>
    intro w n xs h ht hr hx hn hG
    have h0 : (Tr.nil.link : Int) = 0 := rfl
    rw [h0]
    go_enter Try.func64, Try.ntmps64
    go_wp2_with fail
    go_ret
    exact ⟨rfl, by simpa [Tr.views, vcells] using hr, Keep.refl _ _⟩
  | node i l x r il ir =>
    intro w n xs h ht hr hx hn hG
    have hnd := node_any h ht
    obtain ⟨⟨v1, v2, v3, v4⟩, hl, hrr⟩ := ht
    rw [Tr.flds_eq, nodeA_nf] at hnd
    have hvs : (Tr.node i l x r).views = l.views ++ ⟨i, l.link, r.link, ((max l.h r.h + 1 : Nat) : Int), x⟩ :: r.views := rfl
    rw [hvs] at hn ⊢
    generalize hM : ((max l.h r.h + 1 : Nat) : Int) = M at hnd hn ⊢
    clear hvs hM
    simp only [List.length_append, List.length_cons] at hn
    have hi : (Tr.node i l x r).link = i := rfl
    rw [hi] at hnd ⊢
    have d0 : ((i : Int) == 0) = false := by simp; omega
    go_enter Try.func64, Try.ntmps64
    go_upto_region 4 with (go_at_call 63; refine hnd.mono ?_; rintro e w1 ⟨rfl, hk1⟩)
    have K2 : Keep (fun _ => False) w (w1.alloc (.cells (nodeA (nf l.link r.link M x)) 82)) := hk1.alloc _
    have L2 := Loc.new w1 l.link r.link M x
    simp only [nodeA_nf] at K2 L2
    generalize w1.alloc (.cells #[.int .u32 (l.link : Int), .int .u32 (r.link : Int), .int .i64 M, .int .i64 x.lba, .int .i64 x.len, .int .i64 x.phys] 82) = w2 at K2 L2 ⊢
    have hge := hk1.size
    generalize w1.heap.size = g at hge L2 ⊢
    clear hnd hk1
    have hgG : ¬ g = G := by omega
    have hrec := il (h.more K2) hl (hr.more K2) hx (by omega) (by have := K2.size; omega)
    have z0 := L2.c0
    go_upto_region 5 with (go_at_call 64; refine hrec.mono ?_; rintro e w3 ⟨rfl, R3, k3⟩)
    have L3 := L2.keep k3 hgG
    obtain ⟨q0, q1, q2, q3, q4, q5⟩ := L3.six
    have hx3 : (xs ++ vcells l.views).length = (n + l.views.length) * 7 := by rw [List.length_append, hx, vcells_len]; omega
    obtain ⟨w4, happ, R4, k4⟩ := app_view R3 hx3 (by omega) ⟨i, l.link, r.link, M, x⟩ #[.int .u32 (i : Int), .int .u32 (l.link : Int), .int .u32 (r.link : Int), .int .i64 M, .int .i64 x.lba, .int .i64 x.len, .int .i64 x.phys] rfl
    have K4 : Keep (fun x => x = G) w w4 := (K2.mono (fun _ _ e => e.elim)).trans (k3.trans k4)
    have h4 := h.keep K4 (Ne.symm hb) (Ne.symm hp) (Ne.symm hkk)
    have L4 := L3.keep k4 hgG
    have z1 := L4.c1
    have hrec2 := ir h4 hrr R4 (n := n + l.views.length + 1) (by rw [List.length_append, hx3]; simp [vcs]; omega) (by omega) (by have := K4.size; omega)
    clear hrec z0 L2 L3 L4 il ir
    go_wp2_with (first | (at_builtin; refine wpList_append_run rfl (.tmp 19) (.tmp 30) 91 rfl (by rfl) (by rfl) happ ?_) | (go_at_call 64; refine hrec2.mono ?_; rintro e w5 ⟨rfl, R5, k5⟩))
    go_ret
    refine ⟨?_, ?_, K4.trans k5⟩
    · simp only [List.length_append, List.length_cons]
      show Ending.returned _ = _
      simp
      omega
    · have e : vcells (l.views ++ ⟨i, l.link, r.link, M, x⟩ :: r.views) = vcells l.views ++ vcs ⟨i, l.link, r.link, M, x⟩ ++ vcells r.views := by simp [vcells]
      rw [e]
      simpa [List.append_assoc] using R5

set_option maxRecDepth 100000 in
set_option maxHeartbeats 1000000 in
theorem views_any {w : World} {b p k : Nat} {s : Ar} {l : List Nat} {t : Tr} (h : Tt w b p k s l t) :
    Calls Try.prog 56 #[.pointer (some ⟨b, 0, none⟩)] w fun e w' => e = .returned (.slice (some ⟨w.heap.size, 0, none⟩) t.views.length t.views.length) ∧ Rw w' w.heap.size (t.views.length * 7) (vcells t.views) ∧ Keep (fun _ => False) w w' := by
  obtain ⟨t0, t1, t2, f1, f2⟩ := h.tops
  have hlen := h.len
  have hN1 := h.ok.one
  obtain ⟨b1, b2, b3⟩ := h.tb.lt hN1
  rw [← Tr.views_len] at t2 hlen
  have hmk := make_views t.views.length (by omega)
  have K1 : Keep (fun _ => False) w.drew (w.drew.alloc (.cells (madeCells #[.int .u32 0, .int .u32 0, .int .u32 0, .int .i64 0, .int .i64 0, .int .i64 0, .int .i64 0] (t.views.length * 7)) 94)) := (Keep.refl _ _).alloc _
  have R1 := rw_made w.drew #[.int .u32 0, .int .u32 0, .int .u32 0, .int .i64 0, .int .i64 0, .int .i64 0, .int .i64 0] (t.views.length * 7) 94
  have h1 := (h.more ((Keep.refl _ _).drew)).more K1
  have hga := gather_any (G := w.heap.size) (cap := t.views.length) (by omega) (by omega) (by omega) t (n := 0) h1.tb h.hang R1 rfl (by omega) (by simp)
  have hS : ∀ w', Keep (fun x => x = w.heap.size) w.drew w' → w'.cell? ⟨b, 1, none⟩ = some (.int .u32 (t.link : Int)) ∧ w'.cell? ⟨b, 2, none⟩ = some (.int .i64 (t.views.length : Int)) := fun w' hk => by
    have := (h.top.drew).keep hk (show ¬ b = w.heap.size by omega)
    exact ⟨(this 1 (by omega)).1, by rw [Tr.views_len]; exact (this 2 (by omega)).1⟩
  go_enter Try.func56, Try.ntmps56
  go_wp2_with fail
  go_region_held3 (fun w' => w'.cell? ⟨b, 1, none⟩ = some (.int .u32 (t.link : Int)) ∧ w'.cell? ⟨b, 2, none⟩ = some (.int .i64 (t.views.length : Int))) (first | exact hS _ (Keep.refl _ _) | exact hS _ (K1.mono (fun _ _ e => e.elim)) | exact hS _ ((K1.mono (fun _ _ e => e.elim)).trans k2)) ((go_at_call 64; refine hga.mono ?_; rintro e w2 ⟨rfl, R2, k2⟩))
  have K2 : Keep (fun _ => False) w w2 := (((Keep.refl _ _).drew).trans K1).next k2 (fun x hx e => by omega)
  clear hS hga h1 R1 hmk t0 t1 t2
  go_wp2_with fail
  go_ret
  exact ⟨rfl, by simpa using R2, K2⟩

set_option maxRecDepth 100000 in
theorem vcells_at {v : Vw} : ∀ {m : List Vw} {q : Nat}, m[q]? = some v → ∀ j, j < 7 → (vcells m)[q * 7 + j]? = (vcs v)[j]?
  | [], q, h, _, _ => by simp at h
  | y :: m, 0, h, j, hj => by
    simp at h
    subst h
    rw [show vcells (y :: m) = vcs y ++ vcells m from rfl, List.getElem?_append_left (by simp [vcs]; omega)]
    simp
  | y :: m, q + 1, h, j, hj => by
    simp at h
    have := vcells_at (m := m) (q := q) h j hj
    rw [show vcells (y :: m) = vcs y ++ vcells m from rfl, List.getElem?_append_right (by simp [vcs]; omega), ← this]
    congr 1
    simp [vcs]; omega
set_option maxRecDepth 100000 in
theorem rcells_at {v : Rn} : ∀ {m : List Rn} {q : Nat}, m[q]? = some v → ∀ j, j < 3 → (rcells m)[q * 3 + j]? = (rcs v)[j]?
  | [], q, h, _, _ => by simp at h
  | y :: m, 0, h, j, hj => by
    simp at h
    subst h
    rw [show rcells (y :: m) = rcs y ++ rcells m from rfl, List.getElem?_append_left (by simp [rcs]; omega)]
    simp
  | y :: m, q + 1, h, j, hj => by
    simp at h
    have := rcells_at (m := m) (q := q) h j hj
    rw [show rcells (y :: m) = rcs y ++ rcells m from rfl, List.getElem?_append_right (by simp [rcs]; omega), ← this]
    congr 1
    simp [rcs]; omega
set_option maxRecDepth 100000 in
theorem size51 : (Try.prog.info? 94).map (·.size) = some 7 := by kernel_rfl
set_option maxRecDepth 100000 in
theorem under51 : ∃ d, Try.prog.underlying 94 = some d ∧ d.isRow = true := ⟨_, Try.underlying94, rfl⟩
theorem range_of {w : World} {V o : Nat} {xs ys : List Value} (h : ∀ j u, xs[j]? = some u → w.cell? ⟨V, j, none⟩ = some u) (hat : ∀ j, j < ys.length → xs[o + j]? = ys[j]?) : w.rangeAt V o ys := by
  intro j u hu
  have hj := (List.getElem?_eq_some_iff.1 hu).1
  exact h (o + j) u (by rw [hat j hj]; exact hu)
set_option maxRecDepth 100000 in
/-- A view of a row is read. -/
theorem load_view {w : World} {V N : Nat} {m : List Vw} (h : Rw w V N (vcells m)) {q : Nat} {v : Vw} (hv : m[q]? = some v) :
    (Instr.loadAt 94 (.pointer (some ⟨V, q * 7, none⟩))).run Try.prog w = .ok (.agg #[.int .u32 (v.id : Int), .int .u32 (v.left : Int), .int .u32 (v.right : Int), .int .i64 v.h, .int .i64 v.x.lba, .int .i64 v.x.len, .int .i64 v.x.phys]) w := by
  obtain ⟨t, h1, h2⟩ := under51
  exact run_loadAt_mid (P := Try.prog) w V (q * 7) 94 (vcs v) t (range_of h.cells (fun j hj => vcells_at hv j hj)) h1 h2 (by rw [size51]; rfl)
set_option maxRecDepth 100000 in
theorem load_run {w : World} {V : Nat} {m : List Rn} (h : ∀ j u, (rcells m)[j]? = some u → w.cell? ⟨V, j, none⟩ = some u) {q : Nat} {v : Rn} (hv : m[q]? = some v) :
    (Instr.loadAt 55 (.pointer (some ⟨V, q * 3, none⟩))).run Try.prog w = .ok (.agg #[.int .i64 v.lba, .int .i64 v.len, .int .i64 v.phys]) w := by
  obtain ⟨t, h1, h2⟩ := under31
  exact run_loadAt_mid (P := Try.prog) w V (q * 3) 55 (rcs v) t (range_of h (fun j hj => rcells_at hv j hj)) h1 h2 (by rw [size31]; rfl)

set_option maxRecDepth 100000 in
set_option maxHeartbeats 1000000 in
theorem all_any {w : World} {b p k : Nat} {s : Ar} {l : List Nat} {t : Tr} (h : Tt w b p k s l t) :
    Calls Try.prog 45 #[.pointer (some ⟨b, 0, none⟩)] w fun e w' => e = .returned (.slice (some ⟨w.heap.size, 0, none⟩) t.views.length t.views.length) ∧ Rw w' w.heap.size (t.views.length * 3) (rcells t.runs) ∧ Keep (fun _ => False) w w' := by
  obtain ⟨t0, t1, t2, f1, f2⟩ := h.tops
  have hlen := h.len
  have hN1 := h.ok.one
  obtain ⟨b1, b2, b3⟩ := h.tb.lt hN1
  rw [← Tr.views_len] at t2 hlen
  have hmk := make_runs t.views.length (by omega)
  have K1 : Keep (fun _ => False) w (w.alloc (.cells (madeCells #[.int .i64 0, .int .i64 0, .int .i64 0] (t.views.length * 3)) 55)) := (Keep.refl _ _).alloc _
  have R1 := rw_made w #[.int .i64 0, .int .i64 0, .int .i64 0] (t.views.length * 3) 55
  have hv := views_any (h.more K1)
  clear t0 t1 f1 f2
  go_enter Try.func45, Try.ntmps45
  go_wp2_with (go_at_call 56; refine hv.mono ?_; rintro e w1 ⟨rfl, V1, k1⟩)
  have hsz : (w.alloc (.cells (madeCells #[.int .i64 0, .int .i64 0, .int .i64 0] (t.views.length * 3)) 55)).heap.size = w.heap.size + 1 := by simp
  rw [hsz] at V1
  have R2 := R1.more k1
  have K2 := K1.trans k1
  have hruns : t.runs.length = t.views.length := by rw [← Tr.views_runs]; simp
  have hvr := Tr.views_runs t
  have e1 : Hid (t.runs.length = t.views.length) := hruns
  have e2 : Hid (t.views.map (·.x) = t.runs) := hvr
  have hlz : (t.views.length : Int) ≤ 9223372036854775807 := by omega
  have hle : t.views.length ≤ 9223372036854775807 := by omega
  have e3 : Hid (t.views.length ≤ 512) := hlen
  clear hv hmk K1 R1 k1 hsz hruns hvr t2 hlen
  go_loopw [3, 14] (fun a c wr => ∃ q : Nat, q ≤ t.views.length ∧ a = .slice (some ⟨w.heap.size, 0, none⟩) q t.views.length ∧ c = .int .i64 (q : Int) ∧ Rw wr w.heap.size (t.views.length * 3) (rcells (t.runs.take q)) ∧ Rw wr (w.heap.size + 1) (t.views.length * 7) (vcells t.views) ∧ Keep (fun _ => False) w wr) (fun _ c _ => t.views.length - (intOf c).toNat)
  case atStart => exact ⟨0, by omega, rfl, rfl, by simpa [rcells] using R2, V1, K2⟩
  case round =>
    obtain ⟨q, hq, rfl, rfl, hR, hV, hK⟩ := hrel
    clear R2 V1 K2
    by_cases hlt : q < t.views.length
    · have dq : (q : Int) < (t.views.length : Int) := by omega
      obtain ⟨v, hv⟩ : ∃ v, t.views[q]? = some v := ⟨_, List.getElem?_eq_getElem hlt⟩
      have hld := load_view hV hv
      have K3 : Keep (fun _ => False) wr (wr.alloc (.cells #[.int .u32 (v.id : Int), .int .u32 (v.left : Int), .int .u32 (v.right : Int), .int .i64 v.h, .int .i64 v.x.lba, .int .i64 v.x.len, .int .i64 v.x.phys] 94)) := (Keep.refl _ _).alloc _
      have hxl : (rcells (t.runs.take q)).length = q * 3 := by rw [rcells_len, List.length_take, (show t.runs.length = t.views.length from e1)]; omega
      obtain ⟨w4, happ, R4, k4⟩ := app_run (hR.more K3) hxl hlt v.x #[.int .i64 v.x.lba, .int .i64 v.x.len, .int .i64 v.x.phys] rfl
      simp only [World.size_alloc] at happ
      have K4 : Keep (fun _ => False) w w4 := (hK.trans K3).next k4 (fun x hx e => by omega)
      have V4 := (hV.more K3).keep k4 (show ¬ w.heap.size + 1 = w.heap.size by omega)
      have ht : t.runs.take (q + 1) = t.runs.take q ++ [v.x] := by
        rw [List.take_add_one]
        congr 1
        rw [← (show t.views.map (·.x) = t.runs from e2), List.getElem?_map, hv]; rfl
      have hR4 : Hid (Rw w4 w.heap.size (t.views.length * 3) (rcells (t.runs.take (q + 1)))) := by
        show Rw w4 w.heap.size (t.views.length * 3) (rcells (t.runs.take (q + 1)))
        rw [ht, rcells_app]; simpa [rcells] using R4
      clear hR hV K3 R4 k4 hv ht hxl hK
      go_wp2_with (first | (guard_target =~ wpList _ _ _ (Oper.mk _ (Op.load 94 _) _ _ _ _ :: _) _ _; refine wpList_load_run rfl 94 (.tmp 16) rfl (by rfl) hld ?_) | (at_builtin; refine wpList_append_run rfl (.tmp 18) (.tmp 21) 49 rfl (by rfl) (by rfl) happ ?_))
      go_roundw
      case rel => exact ⟨q + 1, by omega, rfl, by go_num, hR4, V4, K4⟩
      case measure => simp [intOf]; omega
    · have dq : ¬ (q : Int) < (t.views.length : Int) := by omega
      have hqe : q = t.views.length := by omega
      have hR' : Rw wr w.heap.size (t.views.length * 3) (rcells t.runs) := by
        rw [List.take_of_length_le (by rw [(show t.runs.length = t.views.length from e1)]; omega)] at hR; exact hR
      have e4 : Hid (q = t.views.length) := hqe
      clear hR hqe
      go_wp2_with fail
      go_ret
      exact ⟨congrArg (fun z => Ending.returned (.slice (some ⟨w.heap.size, 0, none⟩) z t.views.length)) e4, hR', hK⟩
end Tg
end Go.Proofs.Ytbdankhlbepjoaa
