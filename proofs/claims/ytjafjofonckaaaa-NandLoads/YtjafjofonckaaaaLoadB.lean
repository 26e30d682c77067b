/-
  One block of an image is taken over: its state is laid, and the answer tells whether its bytes can go with it.
-/
import Derived.Test.YtjafjofonckaaaaRight
namespace Go.Proofs.Ytjafjofonckaaaa
open Go.ChangeShapes Go.WideShapes Go.ChangeAt Go.RowKit
namespace Nd

theorem step_store_run {P : Program} {ops : Array Oper} {o : Oper} {a : Act} {w : World} {K : Act → World → Prop} {Q : Exit → Act → World → Prop} {E : Prop}
    (hw : Region.wanted o (yielded ops a.tmps) = true) (t : TypeId) (x y : Operand) (hop : o.op = Op.store t x y) {v1 v2 : Value} {w' : World} (hx : a.eval x = v1) (hy : a.eval y = v2) (hrun : (Instr.storeAt t v1 v2).run P w = .ok () w')
    (hK : K (a.put o.dst undef) w') : if Region.wanted o (yielded ops a.tmps) = true then Oper.wp P o a w K Q else E := by
  rw [if_pos hw]
  unfold Oper.wp
  simp [execOp, hop, hx, hy, hrun, Result.andThen]
  exact hK

theorem Row.rest {w : World} {b o len cap k : Nat} {l : List Int} (h : Row w (some ⟨b, o, none⟩) len cap l) (hk : k ≤ len) : Row w (some ⟨b, o + k, none⟩) (len - k) (cap - k) (l.drop k) := by
  obtain ⟨h1, h2, h3, h4, h5⟩ := h
  refine ⟨by rw [List.length_drop, h1], by omega, by omega, fun n hn => h4 n (List.mem_of_mem_drop hn), ?_⟩
  by_cases e : len = k
  · left; omega
  · right
    rcases h5 with h0 | ⟨b', o', e', hc⟩
    · omega
    · simp only [Option.some.injEq, Addr.mk.injEq, and_true] at e'
      obtain ⟨rfl, rfl⟩ := e'
      refine ⟨_, _, rfl, fun i hi => ?_⟩
      rw [Nat.add_assoc, hc (k + i) (by omega)]
      simp [List.getD]
/-- A block's state, as an image's marks tell it. -/
def Fl.loadB (s : Fl) (b : Nat) (bd tn : Bool) (nx : Nat) : Fl := { s with bad := fun x => if x = b then bd else s.bad x, torn := fun x => if x = b then tn else s.torn x, next := fun x => if x = b then nx else s.next x, wear := fun x => if x = b then 0 else s.wear x }
theorem size71 : (Try.prog.info? 71).map (·.size) = some 4 := by kernel_rfl
theorem store71 {w : World} {p c k : Nat} {s : Fl} (h : Mem w p c k s) {b : Nat} (hb : b < s.B) (bd tn : Bool) (nx : Nat) :
    ∃ w', (Instr.storeAt 71 (.pointer (some ⟨k, b * 4, none⟩)) (.agg #[.bool bd, .bool tn, .int .i64 nx, .int .i64 0])).run Try.prog w = .ok () w' ∧ Mem w' p c k (s.loadB b bd tn nx) ∧ Keep (Own p c k) w w' := by
  have hk := h.blk
  refine ⟨_, run_storeAt_mid _ k (b * 4) 71 #[.bool bd, .bool tn, .int .i64 nx, .int .i64 0] (fun j hj => ?_) size71 (by simp; exact ⟨rfl, rfl, rfl, rfl⟩), ?_, ?_⟩
  · have hj4 : j < 4 := hj
    have := hk (b * 4 + j) (by omega)
    exact ⟨by rw [this.1]; rfl, this.2⟩
  · exact (((h.setBad b bd).setTorn b tn).setNext b nx).setWear b 0
  · exact (Keep.refl (Own p c k) w).setCells (b := k) (Or.inl (Or.inr (Or.inr rfl))) _ _
def f71 (bd tn : Bool) (nx : Nat) : Nat → Value
  | 0 => .bool bd
  | 1 => .bool tn
  | 2 => .int .i64 nx
  | _ => .int .i64 0
theorem new71 (w : World) (bd tn : Bool) (nx : Nat) : ∃ w', (Instr.storeAt 71 (.pointer (some ⟨w.heap.size, 0, none⟩)) (.agg #[.bool bd, .bool tn, .int .i64 nx, .int .i64 0])).run Try.prog (w.alloc (.cells #[.bool false, .bool false, .int .i64 0, .int .i64 0] 71)) = .ok () w' ∧ Blk w' w.heap.size 4 (f71 bd tn nx) ∧ Keep (fun _ => False) w w' := by
  have h : Blk (w.alloc (.cells #[.bool false, .bool false, .int .i64 0, .int .i64 0] 71)) w.heap.size 4 (f71 false false 0) := by
    refine blk_alloc _ _ _ _ _ rfl (fun i hi => ?_)
    have : i = 0 ∨ i = 1 ∨ i = 2 ∨ i = 3 := by omega
    rcases this with rfl | rfl | rfl | rfl <;> rfl
  refine ⟨_, run_storeAt_mid _ w.heap.size 0 71 #[.bool bd, .bool tn, .int .i64 nx, .int .i64 0] (fun j hj => ?_) size71 (by simp; exact ⟨rfl, rfl, rfl, rfl⟩), ?_, ?_⟩
  · rw [Nat.zero_add]
    exact ⟨by rw [(h j hj).1]; rfl, (h j hj).2⟩
  · have := h.setCells 0 4 (f71 bd tn nx) (by omega)
    exact this.congr (fun i hi => by rw [if_pos (by omega), Nat.sub_zero])
  · have := (((Keep.refl (fun b => b = w.heap.size) w).alloc (.cells #[.bool false, .bool false, .int .i64 0, .int .i64 0] 71))).setCells (b := w.heap.size) (Or.inl rfl) 0 ((List.range 4).map (f71 bd tn nx))
    exact this.mono (fun k hk e => by omega)

theorem blockCells_at {w : World} {p c k : Nat} {s : Fl} (h : Mem w p c k s) (b2 : s.B ≤ 64) (p1 : 1 ≤ s.P) (p2 : s.P ≤ 32) {b : Nat} (hb : b < s.B) :
    Calls Try.prog 49 #[.pointer (some ⟨p, 0, none⟩), .int .i64 b] w fun e w' => e = .returned (.slice (some ⟨c, b * (s.P * 68), none⟩) (s.P * 68) (s.B * s.P * 68 - b * (s.P * 68))) ∧ w' = w := by
  obtain ⟨t0, t1, t2, t3, t4, t5⟩ := h.tops
  have hm : b * (s.P * 68) ≤ 63 * (32 * 68) := Nat.mul_le_mul (by omega) (by omega)
  have hs : (b + 1) * (s.P * 68) = b * (s.P * 68) + s.P * 68 := by rw [Nat.add_mul, Nat.one_mul]
  have hle : (b + 1) * (s.P * 68) ≤ s.B * s.P * 68 := by rw [Nat.mul_assoc]; exact Nat.mul_le_mul (by omega) (by omega)
  have i1 : (b : Int) * ((s.P : Int) * 68) = ((b * (s.P * 68) : Nat) : Int) := by simp
  have i2 : ((b : Int) + 1) * ((s.P : Int) * 68) = ((b * (s.P * 68) + s.P * 68 : Nat) : Int) := by rw [← hs]; simp
  rw [hs] at hle
  clear hs h
  generalize b * (s.P * 68) = m at *
  generalize s.B * s.P * 68 = n at *
  have hne : ¬ n = m := by omega
  go_enter Try.func49, Try.ntmps49
  go_wp2
  go_ret
  exact ⟨ret_len (by omega), rfl⟩

theorem and1_of {x : Int} (h : 0 ≤ x ∧ x ≤ 3) : (bits .and .u8 x 1 != 0) = (x % 2 == 1) ∧ (bits .and .u8 x 2 != 0) = decide (2 ≤ x) := by
  have : x = 0 ∨ x = 1 ∨ x = 2 ∨ x = 3 := by omega
  rcases this with rfl | rfl | rfl | rfl <;> exact ⟨rfl, rfl⟩

/-- Can the bytes of a block go with its marks? -/
def Fl.fits (s : Fl) (b : Nat) (x : Int) (nx : Nat) : Prop := x ≤ 3 ∧ nx ≤ s.P ∧ (2 ≤ x → nx = 0) ∧ ∀ i, nx * 68 ≤ i → i < s.P * 68 → s.cell (b * (s.P * 68) + i) = if 2 ≤ x then 0 else 255
/-- What loadBlock answers, and leaves. -/
def Loads (e : Ending) (Q : Prop) (w' : World) (p c k : Nat) (t : Fl) : Prop := (e = .returned (.bool true) ∧ Q ∧ Mem w' p c k t) ∨ (e = .returned (.bool false) ∧ ¬ Q)

theorem Loads.of {e : Ending} {Q R : Prop} {w' : World} {p c k : Nat} {t : Fl} (h : Says e R) (hr : R ↔ Q) (hm : Mem w' p c k t) : Loads e Q w' p c k t := by
  obtain ⟨r, rfl, hi⟩ := h
  cases r
  · exact Or.inr ⟨rfl, fun q => absurd (hi.2 (hr.2 q)) (by decide)⟩
  · exact Or.inl ⟨rfl, hr.1 (hi.1 rfl), hm⟩
theorem Says.of {e : Ending} {b : Bool} {R : Prop} (h : e = .returned (.bool b)) (hr : b = true ↔ R) : Says e R := ⟨b, h, hr⟩

set_option maxRecDepth 100000 in
set_option maxHeartbeats 4000000 in
theorem loadBlock_any {w : World} {p c k N b : Nat} {s : Fl} {x : Int} {nx : Nat} (h : Mem w p c k s) (ok : s.Ok N) (hb : b < s.B) (hx : 0 ≤ x ∧ x ≤ 255) (hn : nx ≤ 255) :
    Calls Try.prog 48 #[.pointer (some ⟨p, 0, none⟩), .int .i64 b, .int .u8 x, .int .i64 nx] w fun e w' => Loads e (s.fits b x nx) w' p c k (s.loadB b (x % 2 == 1) (decide (2 ≤ x)) nx) ∧ Keep (Own p c k) w w' := by
  obtain ⟨t0, t1, t2, t3, t4, t5⟩ := h.tops
  by_cases h3 : 3 < x
  · clear t1 t2 t3 t4 t5
    go_enter Try.func48, Try.ntmps48
    go_wp2
    go_ret
    exact ⟨Or.inr ⟨rfl, fun q => by have := q.1; omega⟩, Keep.refl _ _⟩
  by_cases hP : (s.P : Int) < nx
  · clear t1 t2 t3 t4 t5
    go_enter Try.func48, Try.ntmps48
    go_wp2
    go_ret
    exact ⟨Or.inr ⟨rfl, fun q => by have := q.2.1; omega⟩, Keep.refl _ _⟩
  obtain ⟨a1, a2⟩ := and1_of (x := x) (by omega)
  obtain ⟨w3, hst, hZ, hk3⟩ := new71 w (x % 2 == 1) (decide (2 ≤ x)) nx
  have hm3 := h.keep hk3 (fun e => e) (fun e => e) (fun e => e)
  obtain ⟨w4, hst4, hm4, hk4⟩ := store71 hm3.drew hb (x % 2 == 1) (decide (2 ≤ x)) nx
  have hown : ∀ b, Own p c k b → b < w.heap.size := fun b hb' => by
    rcases hb' with rfl | rfl | rfl
    · exact h.top.lt (by omega)
    · exact h.cel.lt (Nat.mul_pos (Nat.mul_pos ok.b1 ok.p1) (by omega))
    · exact h.blk.lt (by have := ok.b1; omega)
  have hEo : ¬ Own p c k w.heap.size := fun e => by have := hown _ e; omega
  obtain ⟨E, hEE⟩ : ∃ E, w.heap.size = E := ⟨_, rfl⟩
  simp only [hEE] at hst hZ hEo
  have hp2 : w3.cell? ⟨p, 2, none⟩ = some (.slice (some ⟨k, 0, none⟩) s.B s.B) := (hm3.top 2 (by omega)).1
  have hp4 : w4.cell? ⟨p, 2, none⟩ = some (.slice (some ⟨k, 0, none⟩) s.B s.B) := (hm4.top 2 (by omega)).1
  have hK4 : Keep (Own p c k) w w4 := hk3.none.trans (((Keep.refl _ w3).drew).trans hk4)
  have hbB : (b : Int) < s.B := by omega
  have hnP : nx ≤ s.P := by omega
  have hZ4 := hZ.keep (((Keep.refl _ w3).drew).trans hk4) hEo
  have y1 : w4.cell? ⟨E, 1, none⟩ = some (.bool (decide (2 ≤ x))) := (hZ4 1 (by omega)).1
  have hbc := blockCells_at hm4 ok.b2 ok.p1 ok.p2 hb
  have hmb : b * (s.P * 68) + s.P * 68 ≤ s.B * s.P * 68 := by
    have : (b + 1) * (s.P * 68) ≤ s.B * (s.P * 68) := Nat.mul_le_mul_right _ hb
    rw [Nat.add_mul, Nat.one_mul] at this
    rw [Nat.mul_assoc]; exact this
  have hM : s.B * s.P * 68 ≤ 139264 := by
    have : s.B * s.P ≤ 64 * 32 := Nat.mul_le_mul ok.b2 ok.p2
    omega
  have hrow : Row w4 (some ⟨c, b * (s.P * 68), none⟩) (s.P * 68) (s.B * s.P * 68 - b * (s.P * 68)) (tab (s.P * 68) fun i => s.cell (b * (s.P * 68) + i)) := Blk.row (N := s.B * s.P * 68) hm4.cel ok.cell (b * (s.P * 68)) (s.P * 68) _ hmb (by omega) (by omega)
  have hfit : ∀ v : Int, v = (if 2 ≤ x then 0 else 255) → ((2 ≤ x → nx = 0) → ((∀ i, nx * 68 ≤ i → i < s.P * 68 → s.cell (b * (s.P * 68) + i) = v) ↔ s.fits b x nx)) := fun v hv ht => by
    subst hv
    exact ⟨fun q => ⟨by omega, hnP, ht, q⟩, fun q => q.2.2.2⟩
  have HF : Hid (∀ v : Int, v = (if 2 ≤ x then 0 else 255) → ((2 ≤ x → nx = 0) → ((∀ i, nx * 68 ≤ i → i < s.P * 68 → s.cell (b * (s.P * 68) + i) = v) ↔ s.fits b x nx))) := hfit
  have HB : (s.loadB b (x % 2 == 1) (decide (2 ≤ x)) nx).B = s.B := rfl
  have HPe : (s.loadB b (x % 2 == 1) (decide (2 ≤ x)) nx).P = s.P := rfl
  rw [HB, HPe] at hbc
  have hnb : ∀ Q : Prop, (2 ≤ x → nx ≠ 0 → ¬ s.fits b x nx) := fun _ h1 h2 q => h2 (q.2.2.1 h1)
  have HN : Hid (2 ≤ x → nx ≠ 0 → ¬ s.fits b x nx) := hnb True
  clear hfit HB HPe hnb t1 t2 t3 t4 t5
  go_enter Try.func48, Try.ntmps48
  go_wp2_with (guard_target =~ wpList _ _ _ (Oper.mk _ (Op.store 71 _ _) _ _ _ _ :: _) _ _; refine wpList_store_run rfl 71 (.tmp 9) (.tmp 28) rfl (by rfl) (by rfl) hst ?_)
  clear hst t0 a1 a2
  refine wp_region_noPanic ?_
  refine wp_region_held_drew (S := fun w' => Blk w' E 4 (f71 (x % 2 == 1) (decide (2 ≤ x)) nx) ∧ w'.cell? ⟨p, 2, none⟩ = some (.slice (some ⟨k, 0, none⟩) s.B s.B)) (by kernel_rfl) (⟨hZ.keep ((Keep.refl (fun _ => False) _).drew) (fun e => e), hp2⟩) (fun hH0 => ?_)
  refine' wpAnyH_take (i := 0) (oi := { dst := some 29, op := Op.move (Operand.tmp 0), type := 23, pos := "nand.go:201", after := #[], guard := none }) (v := _) rfl (by kernel_rfl) (by kernel_rfl) (by kernel_rfl) (fun _ _ _ h => h) (Or.inl ⟨by rfl, ?hy0⟩) hH0 ?r0
  case hy0 => (intro w' hSw; clear hSw; go_simp; try with_reducible rfl)
  simp only [Act.put, List.setIfInBounds_toArray, List.set_cons_zero, List.set_cons_succ]
  refine' wpAnyH_take (i := 1) (oi := { dst := some 30, op := Op.nilCheck (Operand.tmp 29), type := 0, pos := "nand.go:201", after := #[{ on := 0, ground := Ground.data }], guard := none }) (v := _) rfl (by kernel_rfl) (by kernel_rfl) (by kernel_rfl) (fun _ _ _ h => h) (Or.inl ⟨by rfl, ?hy1⟩) hH0 ?r1
  case hy1 => (intro w' hSw; clear hSw; go_simp; try with_reducible rfl)
  simp only [Act.put, List.setIfInBounds_toArray, List.set_cons_zero, List.set_cons_succ]
  refine' wpAnyH_take (i := 2) (oi := { dst := some 31, op := Op.fieldAddr 66 (Operand.tmp 30) 2, type := 0, pos := "nand.go:201", after := #[{ on := 1, ground := Ground.data }], guard := none }) (v := _) rfl (by kernel_rfl) (by kernel_rfl) (by kernel_rfl) (fun _ _ _ h => h) (Or.inl ⟨by rfl, ?hy2⟩) hH0 ?r2
  case hy2 => (intro w' hSw; clear hSw; go_simp; try with_reducible rfl)
  simp only [Act.put, List.setIfInBounds_toArray, List.set_cons_zero, List.set_cons_succ]
  refine' wpAnyH_take (i := 3) (oi := { dst := some 32, op := Op.load 64 (Operand.tmp 31), type := 64, pos := "nand.go:201", after := #[{ on := 2, ground := Ground.data }], guard := none }) (v := _) rfl (by kernel_rfl) (by kernel_rfl) (by kernel_rfl) (fun _ _ _ h => h) (Or.inl ⟨by rfl, ?hy3⟩) hH0 ?r3
  case hy3 => (intro w' hSw; obtain ⟨hZ', hp2'⟩ := hSw; have x0 : w'.cell? ⟨E, 0, none⟩ = some (.bool (x % 2 == 1)) := (hZ' 0 (by omega)).1; have x1 : w'.cell? ⟨E, 1, none⟩ = some (.bool (decide (2 ≤ x))) := (hZ' 1 (by omega)).1; have x2 : w'.cell? ⟨E, 2, none⟩ = some (.int .i64 nx) := (hZ' 2 (by omega)).1; have x3 : w'.cell? ⟨E, 3, none⟩ = some (.int .i64 0) := (hZ' 3 (by omega)).1; clear hZ'; go_simp; try with_reducible rfl)
  simp only [Act.put, List.setIfInBounds_toArray, List.set_cons_zero, List.set_cons_succ]
  refine' wpAnyH_take (i := 4) (oi := { dst := some 33, op := Op.move (Operand.tmp 1), type := 3, pos := "nand.go:201", after := #[], guard := none }) (v := _) rfl (by kernel_rfl) (by kernel_rfl) (by kernel_rfl) (fun _ _ _ h => h) (Or.inl ⟨by rfl, ?hy4⟩) hH0 ?r4
  case hy4 => (intro w' hSw; clear hSw; go_simp; try with_reducible rfl)
  simp only [Act.put, List.setIfInBounds_toArray, List.set_cons_zero, List.set_cons_succ]
  refine' wpAnyH_take (i := 5) (oi := { dst := some 34, op := Op.load 71 (Operand.tmp 9), type := 71, pos := "nand.go:201", after := #[], guard := none }) (v := _) rfl (by kernel_rfl) (by kernel_rfl) (by kernel_rfl) (fun _ _ _ h => h) (Or.inl ⟨by rfl, ?hy5⟩) hH0 ?r5
  case hy5 => (intro w' hSw; obtain ⟨hZ', hp2'⟩ := hSw; have x0 : w'.cell? ⟨E, 0, none⟩ = some (.bool (x % 2 == 1)) := (hZ' 0 (by omega)).1; have x1 : w'.cell? ⟨E, 1, none⟩ = some (.bool (decide (2 ≤ x))) := (hZ' 1 (by omega)).1; have x2 : w'.cell? ⟨E, 2, none⟩ = some (.int .i64 nx) := (hZ' 2 (by omega)).1; have x3 : w'.cell? ⟨E, 3, none⟩ = some (.int .i64 0) := (hZ' 3 (by omega)).1; clear hZ'; go_simp; try with_reducible rfl)
  simp only [Act.put, List.setIfInBounds_toArray, List.set_cons_zero, List.set_cons_succ]
  refine' wpAnyH_take (i := 6) (oi := { dst := some 35, op := Op.indexAddr 64 (Operand.tmp 32) (Operand.tmp 33), type := 0, pos := "nand.go:201", after := #[{ on := 3, ground := Ground.data }, { on := 4, ground := Ground.data }, { on := 0, ground := Ground.phase }, { on := 1, ground := Ground.phase }, { on := 2, ground := Ground.phase }, { on := 3, ground := Ground.phase }, { on := 4, ground := Ground.phase }, { on := 5, ground := Ground.phase }], guard := none }) (v := _) rfl (by kernel_rfl) (by kernel_rfl) (by kernel_rfl) (fun _ _ _ h => h) (Or.inl ⟨by rfl, ?hy6⟩) hH0 ?r6
  case hy6 => (intro w' hSw; clear hSw; go_simp; try with_reducible rfl)
  simp only [Act.put, List.setIfInBounds_toArray, List.set_cons_zero, List.set_cons_succ]
  refine wpAnyH_ready (rs := [7]) (by kernel_rfl) (by simp) ?_
  refine AllReadyH.cons (o := { dst := none, op := Op.store 71 (Operand.tmp 35) (Operand.tmp 34), type := 0, pos := "nand.go:201", after := #[{ on := 6, ground := Ground.data }, { on := 5, ground := Ground.data }, { on := 0, ground := Ground.phase }, { on := 1, ground := Ground.phase }, { on := 2, ground := Ground.phase }, { on := 3, ground := Ground.phase }, { on := 4, ground := Ground.phase }, { on := 5, ground := Ground.phase }], guard := none }) rfl (fun K hK => ?_) AllReadyH.nil
  refine step_store_run (by rfl) 71 (.tmp 35) (.tmp 34) rfl (by rfl) (by rfl) hst4 ?_
  refine hK.out _ _ (⟨hZ.keep (((Keep.refl _ w3).drew).trans hk4) hEo, hp4⟩) (fun hH1 => ?_)
  clear hK K hH0
  refine wpAnyH_done (by kernel_rfl) ?_ _
  refine NoPanic.normal ?_
  clear hst4 hp2 hp4 hZ hH1 hm3
  go_wp2_with fail
  refine hbc.mono ?_
  rintro e w5 ⟨rfl, rfl⟩
  clear hbc
  obtain ⟨W, hW⟩ : ∃ W, s.P * 68 = W := ⟨_, rfl⟩
  obtain ⟨mo, hmo⟩ : ∃ m, b * W = m := ⟨_, rfl⟩
  have hnW : nx * 68 ≤ W := by omega
  simp only [hW, hmo] at hrow HF hmb hM ⊢
  generalize s.B * s.P * 68 = M at *
  by_cases ht : 2 ≤ x
  · have y1' : w5.cell? ⟨E, 1, none⟩ = some (.bool true) := by rw [y1]; simp [ht]
    clear y1
    by_cases hz : nx = 0
    · subst hz
      have hall := allAre_any hrow 0
      have HF2 := HF.out 0 (by rw [if_pos ht]) (fun _ => rfl)
      go_wp2_with fail
      refine hall.mono ?_
      rintro e w6 ⟨⟨r, rfl, hri⟩, rfl⟩
      have hq : r = true ↔ s.fits b x 0 := by
        rw [hri, ← HF2]
        exact ⟨fun q i _ hi => by have := q i hi; rwa [tab_get _ hi] at this, fun q i hi => by rw [tab_get _ hi]; exact q i (by omega) hi⟩
      have HQ : Hid (r = true ↔ s.fits b x 0) := hq
      clear hri hq HF2 hall
      go_wp2_with fail
      go_ret
      exact ⟨Loads.of (Says.of rfl HQ.out) Iff.rfl hm4, hK4⟩
    · have hz' : ¬ (nx : Int) = 0 := by omega
      go_wp2_with fail
      go_ret
      exact ⟨Or.inr ⟨rfl, HN.out ht hz⟩, hK4⟩
  · have y1' : w5.cell? ⟨E, 1, none⟩ = some (.bool false) := by rw [y1]; simp [ht]
    clear y1
    have HF2 := HF.out 255 (by rw [if_neg ht]) (fun e => absurd e ht)
    have hiff : ∀ (l : List Int) (n : Nat), n = W - nx * 68 → (∀ i, i < n → l.getD i 0 = s.cell (mo + (nx * 68 + i))) → ((∀ i, i < n → l.getD i 0 = 255) ↔ s.fits b x nx) := by
      intro l n hn hl
      rw [← HF2]
      constructor
      · intro q i h0 h1
        have := q (i - nx * 68) (by omega)
        rw [hl _ (by omega), show nx * 68 + (i - nx * 68) = i by omega] at this
        exact this
      · intro q i hi
        rw [hl i hi]
        exact q _ (by omega) (by omega)
    have HI : Hid (∀ (l : List Int) (n : Nat), n = W - nx * 68 → (∀ i, i < n → l.getD i 0 = s.cell (mo + (nx * 68 + i))) → ((∀ i, i < n → l.getD i 0 = 255) ↔ s.fits b x nx)) := hiff
    have d1 : (nx : Int) * 68 ≤ W := by omega
    clear hiff HF2 HF HN
    by_cases hc : M - mo = nx * 68
    · have hW0 : W - nx * 68 = 0 := by omega
      have hall : ∀ (aa : Option Addr) (n cc : Nat), n = 0 → cc ≤ 9223372036854775807 → Calls Try.prog 50 #[.slice aa n cc, .int .u8 255] w5 fun e w' => Says e (∀ i, i < W - nx * 68 → ([] : List Int).getD i 0 = 255) ∧ w' = w5 := fun aa n cc hn hcc => by
        subst hn
        have := allAre_any (w := w5) (a := aa) (n := 0) (cap := cc) (l := []) ⟨rfl, by omega, hcc, by simp, Or.inl rfl⟩ 255
        rw [hW0]; exact this
      go_wp2_with fail
      refine (hall _ 0 _ rfl (by omega)).mono ?_
      rintro e w6 ⟨⟨r, rfl, hri⟩, rfl⟩
      have hq : r = true ↔ s.fits b x nx := by
        rw [hri]
        exact HI.out _ _ rfl (fun i hi => by omega)
      have HQ : Hid (r = true ↔ s.fits b x nx) := hq
      clear hri hq hall
      go_wp2_with fail
      go_ret
      exact ⟨Loads.of (Says.of rfl HQ.out) Iff.rfl hm4, hK4⟩
    · have hr2 : Row w5 (some ⟨c, mo + nx * 68, none⟩) (W - nx * 68) (M - mo - nx * 68) ((tab W fun i => s.cell (mo + i)).drop (nx * 68)) := hrow.rest hnW
      have hall := allAre_any hr2 255
      go_wp2_with fail
      refine hall.mono ?_
      rintro e w6 ⟨⟨r, rfl, hri⟩, rfl⟩
      have hq : r = true ↔ s.fits b x nx := by
        rw [hri]
        exact HI.out _ _ rfl (fun i hi => by
          have e1 : ((tab W fun i => s.cell (mo + i)).drop (nx * 68)).getD i 0 = (tab W fun i => s.cell (mo + i)).getD (nx * 68 + i) 0 := by simp [List.getD]
          rw [e1, tab_get _ (by omega)])
      have HQ : Hid (r = true ↔ s.fits b x nx) := hq
      clear hri hq hall
      go_wp2_with fail
      go_ret
      exact ⟨Loads.of (Says.of rfl HQ.out) Iff.rfl hm4, hK4⟩
end Nd
end Go.Proofs.Ytjafjofonckaaaa
