/-
  A tree made since a world; the awakening call of the statements: it returns true, and whatever was in memory is as it was.
-/
import Derived.Test.YtnipckcpnbdhhaaViews
namespace Go.Proofs.Ytnipckcpnbdhhaa
open Go.ChangeShapes Go.WideShapes Go.ChangeAt Go.RowKit
namespace Tg

/-- A whole tree, and its arena, that were made since w. -/
structure Mt (w wr : World) (b p k : Nat) (N : Nat) (l : List Nat) (t : Tr) : Prop where
  ex : ∃ s, Tt wr b p k s l t ∧ s.N = N
  b : w.heap.size ≤ b
  p : w.heap.size ≤ p
  k : w.heap.size ≤ k
  keep : Keep (fun _ => False) w wr

theorem Mt.own {w wr w' : World} {b p k N : Nat} {s : Ar} {l m : List Nat} {t u : Tr} (h : Mt w wr b p k N l t) (hT : Tt w' b p k s m u) (hN : s.N = N) (hk : Keep (Own3 b p k) wr w') : Mt w w' b p k N m u :=
  ⟨⟨s, hT, hN⟩, h.b, h.p, h.k, h.keep.next hk (fun x hx e => by have := h.b; have := h.p; have := h.k; rcases e with e | e | e <;> omega)⟩
theorem Mt.more {w wr w' : World} {b p k N : Nat} {l : List Nat} {t : Tr} (h : Mt w wr b p k N l t) (hk : Keep (fun _ => False) wr w') : Mt w w' b p k N l t := by
  obtain ⟨s, hT, hN⟩ := h.ex
  exact ⟨⟨s, hT.more hk, hN⟩, h.b, h.p, h.k, h.keep.trans hk⟩
theorem Mt.other {S : Nat → Prop} {w wr w' : World} {b p k N : Nat} {l : List Nat} {t : Tr} (h : Mt w wr b p k N l t) (hk : Keep S wr w') (hs : ∀ x, S x → w.heap.size ≤ x) (hb : ¬ S b) (hp : ¬ S p) (hkk : ¬ S k) : Mt w w' b p k N l t := by
  obtain ⟨s, hT, hN⟩ := h.ex
  exact ⟨⟨s, hT.keep hk hb hp hkk, hN⟩, h.b, h.p, h.k, h.keep.next hk (fun x hx e => by have := hs x e; omega)⟩
theorem Mt.lt {w wr : World} {b p k N : Nat} {l : List Nat} {t : Tr} (h : Mt w wr b p k N l t) : b < wr.heap.size ∧ p < wr.heap.size ∧ k < wr.heap.size := by
  obtain ⟨s, hT, hN⟩ := h.ex
  exact hT.tb.lt hT.ok.one
theorem Mt.out {w wr : World} {b p k N : Nat} {l : List Nat} {t : Tr} (h : Mt w wr b p k N l t) {g : Nat} (hg : wr.heap.size ≤ g) : ¬ Own3 b p k g := by
  have := h.lt
  rintro (e | e | e) <;> omega
theorem Mt.has {w wr : World} {b p k N : Nat} {l : List Nat} {t : Tr} (h : Mt w wr b p k N l t) {v : Int} : t.Has v ↔ t.idOf v ≠ 0 := by
  obtain ⟨s, hT, hN⟩ := h.ex
  exact Tr.idOf_has hT.ids1

theorem Mt.insert {w wr : World} {b p k N : Nat} {n : Nat} {l : List Nat} {t : Tr} (h : Mt w wr b p k N (n :: l) t) (r : Rn) (hz : t.idOf r.lba = 0) :
    Calls Try.prog 10 #[.pointer (some ⟨b, 0, none⟩), .agg (rnA r)] wr fun e w' => e = .returned (.int .i64 0) ∧ Mt w w' b p k N l (t.ins n r) ∧ Keep (Own3 b p k) wr w' := by
  have hh := h.has (v := r.lba)
  obtain ⟨s, hT, hN⟩ := h.ex
  refine (insert_new hT r (fun e => hh.1 e hz)).mono ?_
  rintro e w' ⟨rfl, ⟨s', hT', hN'⟩, hk⟩
  exact ⟨rfl, h.own hT' (hN'.trans hN) hk, hk⟩
theorem Mt.insertFull {w wr : World} {b p k N : Nat} {t : Tr} (h : Mt w wr b p k N [] t) (r : Rn) (hz : t.idOf r.lba = 0) :
    Calls Try.prog 10 #[.pointer (some ⟨b, 0, none⟩), .agg (rnA r)] wr fun e w' => e = .returned (.int .i64 5) ∧ Keep (fun _ => False) wr w' := by
  have hh := h.has (v := r.lba)
  obtain ⟨s, hT, hN⟩ := h.ex
  exact insert_full hT r (fun e => hh.1 e hz)
theorem Mt.insertOld {w wr : World} {b p k N : Nat} {l : List Nat} {t : Tr} (h : Mt w wr b p k N l t) (r : Rn) (hz : t.idOf r.lba ≠ 0) :
    Calls Try.prog 10 #[.pointer (some ⟨b, 0, none⟩), .agg (rnA r)] wr fun e w' => e = .returned (.int .i64 1) ∧ Keep (fun _ => False) wr w' := by
  have hh := h.has (v := r.lba)
  obtain ⟨s, hT, hN⟩ := h.ex
  exact insert_old hT r (hh.2 hz)
theorem Mt.delete {w wr : World} {b p k N : Nat} {l : List Nat} {t : Tr} (h : Mt w wr b p k N l t) (v : Int) (hz : t.idOf v ≠ 0) :
    Calls Try.prog 13 #[.pointer (some ⟨b, 0, none⟩), .int .i64 v] wr fun e w' => e = .returned (.int .i64 0) ∧ Mt w w' b p k N (t.idOf v :: l) (t.del v) ∧ Keep (Own3 b p k) wr w' := by
  have hh := h.has (v := v)
  obtain ⟨s, hT, hN⟩ := h.ex
  refine (delete_yes hT v (hh.2 hz)).mono ?_
  rintro e w' ⟨rfl, ⟨s', hT', hN'⟩, hk⟩
  exact ⟨rfl, h.own hT' (hN'.trans hN) hk, hk⟩
theorem Mt.deleteNo {w wr : World} {b p k N : Nat} {l : List Nat} {t : Tr} (h : Mt w wr b p k N l t) (v : Int) (hz : t.idOf v = 0) :
    Calls Try.prog 13 #[.pointer (some ⟨b, 0, none⟩), .int .i64 v] wr fun e w' => e = .returned (.int .i64 4) ∧ Keep (fun _ => False) wr w' := by
  have hh := h.has (v := v)
  obtain ⟨s, hT, hN⟩ := h.ex
  exact delete_no hT v (fun e => hh.1 e hz)
theorem Mt.change {w wr : World} {b p k N : Nat} {l : List Nat} {t : Tr} (h : Mt w wr b p k N l t) (r : Rn) (hz : t.idOf r.lba ≠ 0) :
    Calls Try.prog 14 #[.pointer (some ⟨b, 0, none⟩), .agg (rnA r)] wr fun e w' => e = .returned (.int .i64 0) ∧ Mt w w' b p k N l (t.chg r) ∧ Keep (Own3 b p k) wr w' := by
  have hh := h.has (v := r.lba)
  obtain ⟨s, hT, hN⟩ := h.ex
  refine (change_yes hT r (hh.2 hz)).mono ?_
  rintro e w' ⟨rfl, ⟨s', hT', hN'⟩, hk⟩
  exact ⟨rfl, h.own hT' (hN'.trans hN) hk, hk⟩
theorem Mt.changeNo {w wr : World} {b p k N : Nat} {l : List Nat} {t : Tr} (h : Mt w wr b p k N l t) (r : Rn) (hz : t.idOf r.lba = 0) :
    Calls Try.prog 14 #[.pointer (some ⟨b, 0, none⟩), .agg (rnA r)] wr fun e w' => e = .returned (.int .i64 4) ∧ Keep (fun _ => False) wr w' := by
  have hh := h.has (v := r.lba)
  obtain ⟨s, hT, hN⟩ := h.ex
  exact change_no hT r (fun e => hh.1 e hz)
theorem Mt.find {w wr : World} {b p k N : Nat} {l : List Nat} {t : Tr} (h : Mt w wr b p k N l t) (v : Int) :
    Calls Try.prog 26 #[.pointer (some ⟨b, 0, none⟩), .int .i64 v] wr fun e w' => e = .returned (ansV (t.sub v).run) ∧ Keep (fun _ => False) wr w' := by
  obtain ⟨s, hT, hN⟩ := h.ex
  exact Find_any hT v
theorem Mt.floor {w wr : World} {b p k N : Nat} {l : List Nat} {t : Tr} (h : Mt w wr b p k N l t) (v : Int) :
    Calls Try.prog 25 #[.pointer (some ⟨b, 0, none⟩), .int .i64 v] wr fun e w' => e = .returned (ansV (Tr.fl v t .nil).run) ∧ Keep (fun _ => False) wr w' := by
  obtain ⟨s, hT, hN⟩ := h.ex
  exact floor_any hT v
theorem Mt.ceil {w wr : World} {b p k N : Nat} {l : List Nat} {t : Tr} (h : Mt w wr b p k N l t) (v : Int) :
    Calls Try.prog 12 #[.pointer (some ⟨b, 0, none⟩), .int .i64 v] wr fun e w' => e = .returned (ansV (Tr.ce v t .nil).run) ∧ Keep (fun _ => False) wr w' := by
  obtain ⟨s, hT, hN⟩ := h.ex
  exact ceil_any hT v
theorem Mt.all {w wr : World} {b p k N : Nat} {l : List Nat} {t : Tr} (h : Mt w wr b p k N l t) :
    Calls Try.prog 24 #[.pointer (some ⟨b, 0, none⟩)] wr fun e w' => e = .returned (.slice (some ⟨wr.heap.size, 0, none⟩) t.views.length t.views.length) ∧ Rw w' wr.heap.size (t.views.length * 3) (rcells t.runs) ∧ Keep (fun _ => False) wr w' := by
  obtain ⟨s, hT, hN⟩ := h.ex
  exact all_any hT
theorem Mt.views {w wr : World} {b p k N : Nat} {l : List Nat} {t : Tr} (h : Mt w wr b p k N l t) :
    Calls Try.prog 21 #[.pointer (some ⟨b, 0, none⟩)] wr fun e w' => e = .returned (.slice (some ⟨wr.heap.size, 0, none⟩) t.views.length t.views.length) ∧ Rw w' wr.heap.size (t.views.length * 7) (vcells t.views) ∧ Keep (fun _ => False) wr w' := by
  obtain ⟨s, hT, hN⟩ := h.ex
  exact views_any hT
theorem Mt.len {w wr : World} {b p k N : Nat} {l : List Nat} {t : Tr} (h : Mt w wr b p k N l t) :
    Calls Try.prog 15 #[.pointer (some ⟨b, 0, none⟩)] wr fun e w' => e = .returned (.int .i64 (t.views.length : Int)) ∧ w' = wr := by
  obtain ⟨s, hT, hN⟩ := h.ex
  rw [Tr.views_len]
  exact len_any hT
theorem Mt.root {w wr : World} {b p k N : Nat} {l : List Nat} {t : Tr} (h : Mt w wr b p k N l t) :
    Calls Try.prog 16 #[.pointer (some ⟨b, 0, none⟩)] wr fun e w' => e = .returned (.int .u32 (t.link : Int)) ∧ w' = wr := by
  obtain ⟨s, hT, hN⟩ := h.ex
  exact root_any hT
theorem Mt.live {w wr : World} {b p k N : Nat} {l : List Nat} {t : Tr} (h : Mt w wr b p k N l t) :
    Calls Try.prog 22 #[.pointer (some ⟨p, 0, none⟩)] wr fun e w' => e = .returned (.int .i64 (t.views.length : Int)) ∧ w' = wr := by
  obtain ⟨s, hT, hN⟩ := h.ex
  have := live_any hT.mem
  rw [hT.live, ← Tr.views_len] at this
  exact this
theorem Mt.room {w wr : World} {b p k N : Nat} {l : List Nat} {t : Tr} (h : Mt w wr b p k N l t) : t.views.length + l.length = N := by
  obtain ⟨s, hT, hN⟩ := h.ex
  rw [Tr.views_len, ← hT.live, hT.ok.count, hN]

theorem arena_any (w : World) {n : Nat} (h1 : 1 ≤ n) (h2 : n ≤ 512) :
    Calls Try.prog 8 #[.int .i64 (n : Int)] w fun e w' => ∃ p k, e = .returned (.tuple #[.pointer (some ⟨p, 0, none⟩), .int .i64 0]) ∧ Mem w' p k (Ar.new n) ∧ w.heap.size ≤ p ∧ w.heap.size ≤ k ∧ Keep (fun _ => False) w w' := new_any h1 h2
theorem Mt.new {w wr : World} {p k n : Nat} (h1 : 1 ≤ n) (h2 : n ≤ 512) (hm : Mem wr p k (Ar.new n)) (hp : w.heap.size ≤ p) (hkk : w.heap.size ≤ k) (hK : Keep (fun _ => False) w wr) :
    Calls Try.prog 9 #[.pointer (some ⟨p, 0, none⟩)] wr fun e w' => e = .returned (.pointer (some ⟨wr.heap.size, 0, none⟩)) ∧ Mt w w' wr.heap.size p k n (List.range' 1 n) .nil ∧ Keep (fun _ => False) wr w' := by
  refine (newTree_any hm (Ar.new_ok h1 h2) rfl).mono ?_
  rintro e w' ⟨rfl, hT, hk⟩
  exact ⟨rfl, ⟨⟨_, hT, rfl⟩, hK.size, hp, hkk, hK.trans hk⟩, hk⟩

theorem run_any (w : World) (v : Int) : Calls Try.prog 11 #[.int .i64 v] w fun e w' => e = .returned (.agg (rnA ⟨v, 1, 7⟩)) ∧ Keep (fun _ => False) w w' := by
  have K1 : Keep (fun _ => False) w (w.alloc (.cells #[.int .i64 v, .int .i64 1, .int .i64 7] 31)) := (Keep.refl _ _).alloc _
  go_enter Try.func11, Try.ntmps11
  go_wp2_with fail
  refine bodyPost_ret (v := .agg (rnA ⟨v, 1, 7⟩)) ?_ rfl ⟨rfl, K1⟩
  rw [results_cell rfl]
  have hld := (Lrn.new w ⟨v, 1, 7⟩).load
  rw [rnA_lit] at hld ⊢
  simp only at hld ⊢
  simp [asAddr, Result.andThen, hld]

theorem ansV_some (x : Rn) : ansV (some x) = .tuple #[.agg #[.int .i64 x.lba, .int .i64 x.len, .int .i64 x.phys], .bool true] := rfl
theorem ansV_none : ansV none = .tuple #[.agg #[.int .i64 0, .int .i64 0, .int .i64 0], .bool false] := rfl

theorem call11 (args : Array Value) (w : World) : (callFunc 11 args).run Try.prog w = .ok (.enter 11 args) w := enters Try.func11 (by kernel_rfl) (by kernel_rfl) args w
theorem call15 (args : Array Value) (w : World) : (callFunc 15 args).run Try.prog w = .ok (.enter 15 args) w := enters Try.func15 (by kernel_rfl) (by kernel_rfl) args w
theorem call16 (args : Array Value) (w : World) : (callFunc 16 args).run Try.prog w = .ok (.enter 16 args) w := enters Try.func16 (by kernel_rfl) (by kernel_rfl) args w
theorem call21 (args : Array Value) (w : World) : (callFunc 21 args).run Try.prog w = .ok (.enter 21 args) w := enters Try.func21 (by kernel_rfl) (by kernel_rfl) args w
/-- A call's contract, as a step of a region. -/
theorem post_of {f : FuncId} {vs : Array Value} {v : Value} {w : World} {R : World → Prop} (h : Calls Try.prog f vs w fun e w' => e = .returned v ∧ R w') : Calls Try.prog f vs w fun e w2 => ∃ u, e = .returned u ∧ (fun u w2 => u = v ∧ R w2) u w2 :=
  h.mono (by rintro e w' ⟨rfl, h⟩; exact ⟨_, rfl, rfl, h⟩)

/-- The runs of the examples. -/
def rv (v : Int) : Rn := ⟨v, 1, 7⟩
def ex3 : Tr := ((Tr.nil.ins 1 (rv 5)).ins 2 (rv 3)).ins 3 (rv 8)
def ex2 : Tr := (ex3.chg ⟨3, 4, 2⟩).del 5

set_option maxRecDepth 100000 in
set_option maxHeartbeats 2000000 in
theorem awake_any (w : World) : Calls Try.prog 7 #[] w fun e w' => e = .returned (.bool true) ∧ Keep (fun _ => False) w w' := by
  have hnew := arena_any w (n := 3) (by omega) (by omega)
  rw [show ((3 : Nat) : Int) = 3 from rfl] at hnew
  go_enter Try.func7, Try.ntmps7
  go_wp2_with fail
  refine hnew.mono ?_
  rintro e w1 ⟨p, k, rfl, m1, hp, hkk, k1⟩
  clear hnew
  have hnew := Mt.new (w := w) (by omega) (by omega) m1 hp hkk k1
  generalize hb : w1.heap.size = b at hnew
  clear hb m1 hp hkk k1
  go_wp2_with fail
  refine hnew.mono ?_
  rintro e w2 ⟨rfl, h2, -⟩
  clear hnew
  have h2 : Mt w w2 b p k 3 [1, 2, 3] .nil := h2
  have hr := run_any w2 5
  rw [rnA_lit] at hr
  go_wp2_with fail
  refine hr.mono ?_
  rintro e w3 ⟨rfl, k3⟩
  have hi := (h2.more k3).insert (rv 5) rfl
  rw [rnA_lit] at hi
  clear hr h2 k3
  go_wp2_with fail
  refine hi.mono ?_
  rintro e w4 ⟨rfl, h4, -⟩
  have hr := run_any w4 3
  rw [rnA_lit] at hr
  clear hi
  go_wp2_with fail
  refine hr.mono ?_
  rintro e w5 ⟨rfl, k5⟩
  have hi := (h4.more k5).insert (rv 3) (by decide +kernel)
  rw [rnA_lit] at hi
  clear hr h4 k5
  go_wp2_with fail
  refine hi.mono ?_
  rintro e w6 ⟨rfl, h6, -⟩
  have hr := run_any w6 8
  rw [rnA_lit] at hr
  clear hi
  go_wp2_with fail
  refine hr.mono ?_
  rintro e w7 ⟨rfl, k7⟩
  have hi := (h6.more k7).insert (rv 8) (by decide +kernel)
  rw [rnA_lit] at hi
  clear hr h6 k7
  go_wp2_with fail
  refine hi.mono ?_
  rintro e w8 ⟨rfl, h8, -⟩
  have h8 : Mt w w8 b p k 3 [] ex3 := h8
  have hr := run_any w8 9
  rw [rnA_lit] at hr
  clear hi
  go_wp2_with fail
  refine hr.mono ?_
  rintro e w9 ⟨rfl, k9⟩
  have h9 := h8.more k9
  have hi := h9.insertFull (rv 9) (by decide +kernel)
  rw [rnA_lit] at hi
  clear hr h8 k9
  go_wp2_with fail
  refine hi.mono ?_
  rintro e w10 ⟨rfl, k10⟩
  have h10 := h9.more k10
  have hr := run_any w10 5
  rw [rnA_lit] at hr
  clear hi h9 k10
  go_wp2_with fail
  refine hr.mono ?_
  rintro e w11 ⟨rfl, k11⟩
  have h11 := h10.more k11
  have hi := h11.insertOld (rv 5) (by decide +kernel)
  rw [rnA_lit] at hi
  clear hr h10 k11
  go_wp2_with fail
  refine hi.mono ?_
  rintro e w12 ⟨rfl, k12⟩
  have h12 := h11.more k12
  clear hi h11 k12
  have hf := h12.floor 4
  rw [show (Tr.fl 4 ex3 .nil).run = some (rv 3) from by kernel_rfl, ansV_some] at hf
  go_wp2_with fail
  refine hf.mono ?_
  rintro e w13 ⟨rfl, k13⟩
  have h13 := h12.more k13
  have x13 := Lrn.new w13 (rv 3)
  have a13 : Keep (fun _ => False) w13 (w13.alloc (.cells (rnA (rv 3)) 31)) := (Keep.refl _ _).alloc _
  have h14 := h13.more a13
  have hx := h13.out (Nat.le_refl _)
  rw [rnA_lit] at x13 a13 h14
  clear hf h12 k13 h13
  have hf := h14.ceil 6
  rw [show (Tr.ce 6 ex3 .nil).run = some (rv 8) from by kernel_rfl, ansV_some] at hf
  go_wp2_with fail
  refine hf.mono ?_
  rintro e w15 ⟨rfl, k15⟩
  have x15 := x13.more k15
  have h15 := h14.more k15
  have y15 := Lrn.new w15 (rv 8)
  have a15 : Keep (fun _ => False) w15 (w15.alloc (.cells (rnA (rv 8)) 31)) := (Keep.refl _ _).alloc _
  have h16 := h15.more a15
  have x16 := x15.more a15
  have hy := h15.out (Nat.le_refl _)
  rw [rnA_lit] at y15 a15 h16 x16
  generalize w13.heap.size = gx at x13 hx x15 x16 ⊢
  clear hf k15 h14 h15 x13 x15 a13
  have hf := h16.floor 2
  rw [show (Tr.fl 2 ex3 .nil).run = none from by kernel_rfl, ansV_none] at hf
  go_wp2_with fail
  refine hf.mono ?_
  rintro e w17 ⟨rfl, k17⟩
  have x17 := x16.more k17
  have y17 := y15.more k17
  have h17 := h16.more k17
  have a17 : Keep (fun _ => False) w17 (w17.alloc (.cells #[.int .i64 0, .int .i64 0, .int .i64 0] 31)) := (Keep.refl _ _).alloc _
  have h18 := h17.more a17
  have x18 := x17.more a17
  have y18 := y17.more a17
  generalize w15.heap.size = gy at y15 y17 hy y18 ⊢
  clear hf k17 h17 h16 x16 x17 y15 y17 a15
  have hf := h18.find 5
  rw [show (ex3.sub 5).run = some (rv 5) from by kernel_rfl, ansV_some] at hf
  go_wp2_with fail
  refine hf.mono ?_
  rintro e w19 ⟨rfl, k19⟩
  have x19 := x18.more k19
  have y19 := y18.more k19
  have h19 := h18.more k19
  have z19 := Lrn.new w19 (rv 5)
  have a19 : Keep (fun _ => False) w19 (w19.alloc (.cells (rnA (rv 5)) 31)) := (Keep.refl _ _).alloc _
  have h20 := h19.more a19
  have x20 := x19.more a19
  have y20 := y19.more a19
  have hz := h19.out (Nat.le_refl _)
  rw [rnA_lit] at z19 a19 h20 x20 y20
  clear hf k19 h19 h18 x18 x19 y18 y19 a17
  have hc := h20.change ⟨3, 4, 2⟩ (by decide +kernel)
  rw [rnA_lit] at hc
  go_wp2_with fail
  refine hc.mono ?_
  rintro e w21 ⟨rfl, h21, k21⟩
  have x21 : Lrn w21 gx (rv 3) := Blk.keep x20 k21 hx
  have y21 : Lrn w21 gy (rv 8) := Blk.keep y20 k21 hy
  have z21 : Lrn w21 w19.heap.size (rv 5) := Blk.keep z19 k21 hz
  clear hc h20 x20 y20 z19 k21 a19
  have hd := h21.delete 5 (by decide +kernel)
  go_wp2_with fail
  refine hd.mono ?_
  rintro e w22 ⟨rfl, h22, k22⟩
  have x22 : Lrn w22 gx (rv 3) := Blk.keep x21 k22 hx
  have y22 : Lrn w22 gy (rv 8) := Blk.keep y21 k22 hy
  have z22 : Lrn w22 w19.heap.size (rv 5) := Blk.keep z21 k22 hz
  have h22 : Mt w w22 b p k 3 [1] ex2 := h22
  clear hd h21 x21 y21 z21 k22
  generalize w19.heap.size = gz at z22 hz ⊢
  have ha := h22.all
  rw [show ex2.views.length = 2 from by kernel_rfl, show ex2.runs = [⟨3, 4, 2⟩, rv 8] from by kernel_rfl] at ha
  go_wp2_with fail
  refine ha.mono ?_
  rintro e w23 ⟨rfl, R23, k23⟩
  generalize w22.heap.size = ga at R23 ⊢
  have x23 := x22.more k23
  have y23 := y22.more k23
  have z23 := z22.more k23
  have h23 := h22.more k23
  clear ha h22 x22 y22 z22 k23
  have cx : w23.cell? ⟨gx, 0, none⟩ = some (.int .i64 3) := (x23 0 (by omega)).1
  have cy : w23.cell? ⟨gy, 0, none⟩ = some (.int .i64 8) := (y23 0 (by omega)).1
  have cz0 : w23.cell? ⟨gz, 0, none⟩ = some (.int .i64 5) := (z23 0 (by omega)).1
  have cz1 : w23.cell? ⟨gz, 1, none⟩ = some (.int .i64 1) := (z23 1 (by omega)).1
  have cz2 : w23.cell? ⟨gz, 2, none⟩ = some (.int .i64 7) := (z23 2 (by omega)).1
  have c1 : w23.cell? ⟨ga, 1, none⟩ = some (.int .i64 4) := R23.cells 1 _ rfl
  have c3 : w23.cell? ⟨ga, 3, none⟩ = some (.int .i64 8) := R23.cells 3 _ rfl
  have c4 : w23.cell? ⟨ga, 4, none⟩ = some (.int .i64 1) := R23.cells 4 _ rfl
  have c5 : w23.cell? ⟨ga, 5, none⟩ = some (.int .i64 7) := R23.cells 5 _ rfl
  have hS : ∀ w', Keep (fun _ => False) w23.drew w' → (w'.cell? ⟨gx, 0, none⟩ = some (.int .i64 3) ∧ w'.cell? ⟨gy, 0, none⟩ = some (.int .i64 8) ∧ w'.cell? ⟨gz, 0, none⟩ = some (.int .i64 5) ∧ w'.cell? ⟨gz, 1, none⟩ = some (.int .i64 1) ∧ w'.cell? ⟨gz, 2, none⟩ = some (.int .i64 7) ∧ w'.cell? ⟨ga, 1, none⟩ = some (.int .i64 4) ∧ w'.cell? ⟨ga, 3, none⟩ = some (.int .i64 8) ∧ w'.cell? ⟨ga, 4, none⟩ = some (.int .i64 1) ∧ w'.cell? ⟨ga, 5, none⟩ = some (.int .i64 7)) := by
    intro w' hk
    have hc : ∀ (a : Addr) (v : Value), w23.cell? a = some v → w'.cell? a = some v := fun a v e => by
      rw [← e]
      exact World.cell?_of_block (w := w23) (a := a) (hk.block a.block (World.block_lt_of_cell? w23 _ e) (fun e => e))
    exact ⟨hc _ _ cx, hc _ _ cy, hc _ _ cz0, hc _ _ cz1, hc _ _ cz2, hc _ _ c1, hc _ _ c3, hc _ _ c4, hc _ _ c5⟩
  have hr5 := fun w => run_any w 5
  have hr8 := fun w => run_any w 8
  simp only [rnA_lit] at hr5 hr8
  have h23 := h23.more ((Keep.refl _ _).drew)
  go_wp2_with fail
  simp only [List.append_eq, List.cons_append, List.nil_append]
  clear cx cy cz0 cz1 cz2 c1 c3 c4 c5 x23 y23 z23 R23
  refine wp_region_noPanic ?_
  refine wp_region_held_drew (S := fun w' => w'.cell? ⟨gx, 0, none⟩ = some (.int .i64 3) ∧ w'.cell? ⟨gy, 0, none⟩ = some (.int .i64 8) ∧ w'.cell? ⟨gz, 0, none⟩ = some (.int .i64 5) ∧ w'.cell? ⟨gz, 1, none⟩ = some (.int .i64 1) ∧ w'.cell? ⟨gz, 2, none⟩ = some (.int .i64 7) ∧ w'.cell? ⟨ga, 1, none⟩ = some (.int .i64 4) ∧ w'.cell? ⟨ga, 3, none⟩ = some (.int .i64 8) ∧ w'.cell? ⟨ga, 4, none⟩ = some (.int .i64 1) ∧ w'.cell? ⟨ga, 5, none⟩ = some (.int .i64 7)) (by kernel_rfl) (hS _ (Keep.refl _ _)) (fun hH0 => ?_)
  refine' wpAnyH_take (i := 0) (oi := { dst := some 76, op := Op.move (Operand.tmp 4), type := 24, pos := "law.go:35", after := #[], guard := none }) (v := _) rfl (by kernel_rfl) (by kernel_rfl) (by kernel_rfl) (fun _ _ _ h => h) (Or.inl ⟨by rfl, ?hy0⟩) hH0 ?r0
  case hy0 => (intro w' hSw; clear hSw; go_simp; try with_reducible rfl)
  simp only [Act.put, List.setIfInBounds_toArray, List.set_cons_zero, List.set_cons_succ]
  refine' wpAnyH_take (i := 1) (oi := { dst := some 77, op := Op.binOp BinOp.eql 24 (Operand.tmp 76) (Operand.const (Value.int IntKind.i64 0)) 24, type := 4, pos := "law.go:35", after := #[{ on := 0, ground := Ground.data }], guard := none }) (v := _) rfl (by kernel_rfl) (by kernel_rfl) (by kernel_rfl) (fun _ _ _ h => h) (Or.inl ⟨by rfl, ?hy1⟩) hH0 ?r1
  case hy1 => (intro w' hSw; clear hSw; go_simp; try with_reducible rfl)
  simp only [Act.put, List.setIfInBounds_toArray, List.set_cons_zero, List.set_cons_succ]
  refine' wpAnyH_take (i := 2) (oi := { dst := some 78, op := Op.move (Operand.tmp 77), type := 4, pos := "law.go:35", after := #[{ on := 1, ground := Ground.data }], guard := none }) (v := _) rfl (by kernel_rfl) (by kernel_rfl) (by kernel_rfl) (fun _ _ _ h => h) (Or.inl ⟨by rfl, ?hy2⟩) hH0 ?r2
  case hy2 => (intro w' hSw; clear hSw; go_simp; try with_reducible rfl)
  simp only [Act.put, List.setIfInBounds_toArray, List.set_cons_zero, List.set_cons_succ]
  refine' wpAnyH_take (i := 3) (oi := { dst := some 79, op := Op.move (Operand.tmp 5), type := 24, pos := "law.go:35", after := #[{ on := 2, ground := Ground.guard }], guard := some (2, true) }) (v := _) rfl (by kernel_rfl) (by kernel_rfl) (by kernel_rfl) (fun _ _ _ h => h) (Or.inl ⟨by rfl, ?hy3⟩) hH0 ?r3
  case hy3 => (intro w' hSw; clear hSw; go_simp; try with_reducible rfl)
  simp only [Act.put, List.setIfInBounds_toArray, List.set_cons_zero, List.set_cons_succ]
  refine' wpAnyH_take (i := 4) (oi := { dst := some 80, op := Op.binOp BinOp.eql 24 (Operand.tmp 79) (Operand.const (Value.int IntKind.i64 0)) 24, type := 4, pos := "law.go:35", after := #[{ on := 3, ground := Ground.data }, { on := 2, ground := Ground.guard }], guard := some (2, true) }) (v := _) rfl (by kernel_rfl) (by kernel_rfl) (by kernel_rfl) (fun _ _ _ h => h) (Or.inl ⟨by rfl, ?hy4⟩) hH0 ?r4
  case hy4 => (intro w' hSw; clear hSw; go_simp; try with_reducible rfl)
  simp only [Act.put, List.setIfInBounds_toArray, List.set_cons_zero, List.set_cons_succ]
  refine' wpAnyH_take (i := 5) (oi := { dst := some 81, op := Op.pick (Operand.tmp 78) (Operand.tmp 80) (Operand.const (Value.bool false)), type := 4, pos := "law.go:35", after := #[{ on := 2, ground := Ground.data }, { on := 4, ground := Ground.data }], guard := none }) (v := _) rfl (by kernel_rfl) (by kernel_rfl) (by kernel_rfl) (fun _ _ _ h => h) (Or.inl ⟨by rfl, ?hy5⟩) hH0 ?r5
  case hy5 => (intro w' hSw; clear hSw; go_simp; try with_reducible rfl)
  simp only [Act.put, List.setIfInBounds_toArray, List.set_cons_zero, List.set_cons_succ]
  refine' wpAnyH_take (i := 6) (oi := { dst := some 82, op := Op.move (Operand.tmp 81), type := 4, pos := "law.go:35", after := #[{ on := 5, ground := Ground.data }, { on := 2, ground := Ground.chain }], guard := none }) (v := _) rfl (by kernel_rfl) (by kernel_rfl) (by kernel_rfl) (fun _ _ _ h => h) (Or.inl ⟨by rfl, ?hy6⟩) hH0 ?r6
  case hy6 => (intro w' hSw; clear hSw; go_simp; try with_reducible rfl)
  simp only [Act.put, List.setIfInBounds_toArray, List.set_cons_zero, List.set_cons_succ]
  refine' wpAnyH_take (i := 7) (oi := { dst := some 83, op := Op.move (Operand.tmp 6), type := 24, pos := "law.go:35", after := #[{ on := 6, ground := Ground.guard }], guard := some (6, true) }) (v := _) rfl (by kernel_rfl) (by kernel_rfl) (by kernel_rfl) (fun _ _ _ h => h) (Or.inl ⟨by rfl, ?hy7⟩) hH0 ?r7
  case hy7 => (intro w' hSw; clear hSw; go_simp; try with_reducible rfl)
  simp only [Act.put, List.setIfInBounds_toArray, List.set_cons_zero, List.set_cons_succ]
  refine' wpAnyH_take (i := 8) (oi := { dst := some 84, op := Op.binOp BinOp.eql 24 (Operand.tmp 83) (Operand.const (Value.int IntKind.i64 0)) 24, type := 4, pos := "law.go:35", after := #[{ on := 7, ground := Ground.data }, { on := 6, ground := Ground.guard }], guard := some (6, true) }) (v := _) rfl (by kernel_rfl) (by kernel_rfl) (by kernel_rfl) (fun _ _ _ h => h) (Or.inl ⟨by rfl, ?hy8⟩) hH0 ?r8
  case hy8 => (intro w' hSw; clear hSw; go_simp; try with_reducible rfl)
  simp only [Act.put, List.setIfInBounds_toArray, List.set_cons_zero, List.set_cons_succ]
  refine' wpAnyH_take (i := 9) (oi := { dst := some 85, op := Op.pick (Operand.tmp 82) (Operand.tmp 84) (Operand.const (Value.bool false)), type := 4, pos := "law.go:35", after := #[{ on := 6, ground := Ground.data }, { on := 8, ground := Ground.data }], guard := none }) (v := _) rfl (by kernel_rfl) (by kernel_rfl) (by kernel_rfl) (fun _ _ _ h => h) (Or.inl ⟨by rfl, ?hy9⟩) hH0 ?r9
  case hy9 => (intro w' hSw; clear hSw; go_simp; try with_reducible rfl)
  simp only [Act.put, List.setIfInBounds_toArray, List.set_cons_zero, List.set_cons_succ]
  refine' wpAnyH_take (i := 10) (oi := { dst := some 86, op := Op.move (Operand.tmp 85), type := 4, pos := "law.go:35", after := #[{ on := 9, ground := Ground.data }, { on := 6, ground := Ground.chain }], guard := none }) (v := _) rfl (by kernel_rfl) (by kernel_rfl) (by kernel_rfl) (fun _ _ _ h => h) (Or.inl ⟨by rfl, ?hy10⟩) hH0 ?r10
  case hy10 => (intro w' hSw; clear hSw; go_simp; try with_reducible rfl)
  simp only [Act.put, List.setIfInBounds_toArray, List.set_cons_zero, List.set_cons_succ]
  refine' wpAnyH_take (i := 11) (oi := { dst := some 87, op := Op.move (Operand.tmp 7), type := 24, pos := "law.go:35", after := #[{ on := 10, ground := Ground.guard }], guard := some (10, true) }) (v := _) rfl (by kernel_rfl) (by kernel_rfl) (by kernel_rfl) (fun _ _ _ h => h) (Or.inl ⟨by rfl, ?hy11⟩) hH0 ?r11
  case hy11 => (intro w' hSw; clear hSw; go_simp; try with_reducible rfl)
  simp only [Act.put, List.setIfInBounds_toArray, List.set_cons_zero, List.set_cons_succ]
  refine' wpAnyH_take (i := 12) (oi := { dst := some 88, op := Op.binOp BinOp.eql 24 (Operand.tmp 87) (Operand.const (Value.int IntKind.i64 5)) 24, type := 4, pos := "law.go:35", after := #[{ on := 11, ground := Ground.data }, { on := 10, ground := Ground.guard }], guard := some (10, true) }) (v := _) rfl (by kernel_rfl) (by kernel_rfl) (by kernel_rfl) (fun _ _ _ h => h) (Or.inl ⟨by rfl, ?hy12⟩) hH0 ?r12
  case hy12 => (intro w' hSw; clear hSw; go_simp; try with_reducible rfl)
  simp only [Act.put, List.setIfInBounds_toArray, List.set_cons_zero, List.set_cons_succ]
  refine' wpAnyH_take (i := 13) (oi := { dst := some 89, op := Op.pick (Operand.tmp 86) (Operand.tmp 88) (Operand.const (Value.bool false)), type := 4, pos := "law.go:35", after := #[{ on := 10, ground := Ground.data }, { on := 12, ground := Ground.data }], guard := none }) (v := _) rfl (by kernel_rfl) (by kernel_rfl) (by kernel_rfl) (fun _ _ _ h => h) (Or.inl ⟨by rfl, ?hy13⟩) hH0 ?r13
  case hy13 => (intro w' hSw; clear hSw; go_simp; try with_reducible rfl)
  simp only [Act.put, List.setIfInBounds_toArray, List.set_cons_zero, List.set_cons_succ]
  refine' wpAnyH_take (i := 14) (oi := { dst := some 90, op := Op.move (Operand.tmp 89), type := 4, pos := "law.go:35", after := #[{ on := 13, ground := Ground.data }, { on := 10, ground := Ground.chain }], guard := none }) (v := _) rfl (by kernel_rfl) (by kernel_rfl) (by kernel_rfl) (fun _ _ _ h => h) (Or.inl ⟨by rfl, ?hy14⟩) hH0 ?r14
  case hy14 => (intro w' hSw; clear hSw; go_simp; try with_reducible rfl)
  simp only [Act.put, List.setIfInBounds_toArray, List.set_cons_zero, List.set_cons_succ]
  refine' wpAnyH_take (i := 15) (oi := { dst := some 91, op := Op.move (Operand.tmp 8), type := 24, pos := "law.go:35", after := #[{ on := 14, ground := Ground.guard }], guard := some (14, true) }) (v := _) rfl (by kernel_rfl) (by kernel_rfl) (by kernel_rfl) (fun _ _ _ h => h) (Or.inl ⟨by rfl, ?hy15⟩) hH0 ?r15
  case hy15 => (intro w' hSw; clear hSw; go_simp; try with_reducible rfl)
  simp only [Act.put, List.setIfInBounds_toArray, List.set_cons_zero, List.set_cons_succ]
  refine' wpAnyH_take (i := 16) (oi := { dst := some 92, op := Op.binOp BinOp.eql 24 (Operand.tmp 91) (Operand.const (Value.int IntKind.i64 1)) 24, type := 4, pos := "law.go:35", after := #[{ on := 15, ground := Ground.data }, { on := 14, ground := Ground.guard }], guard := some (14, true) }) (v := _) rfl (by kernel_rfl) (by kernel_rfl) (by kernel_rfl) (fun _ _ _ h => h) (Or.inl ⟨by rfl, ?hy16⟩) hH0 ?r16
  case hy16 => (intro w' hSw; clear hSw; go_simp; try with_reducible rfl)
  simp only [Act.put, List.setIfInBounds_toArray, List.set_cons_zero, List.set_cons_succ]
  refine' wpAnyH_take (i := 17) (oi := { dst := some 93, op := Op.pick (Operand.tmp 90) (Operand.tmp 92) (Operand.const (Value.bool false)), type := 4, pos := "law.go:35", after := #[{ on := 14, ground := Ground.data }, { on := 16, ground := Ground.data }], guard := none }) (v := _) rfl (by kernel_rfl) (by kernel_rfl) (by kernel_rfl) (fun _ _ _ h => h) (Or.inl ⟨by rfl, ?hy17⟩) hH0 ?r17
  case hy17 => (intro w' hSw; clear hSw; go_simp; try with_reducible rfl)
  simp only [Act.put, List.setIfInBounds_toArray, List.set_cons_zero, List.set_cons_succ]
  refine' wpAnyH_take (i := 18) (oi := { dst := some 94, op := Op.move (Operand.tmp 93), type := 4, pos := "law.go:35", after := #[{ on := 17, ground := Ground.data }, { on := 14, ground := Ground.chain }], guard := none }) (v := _) rfl (by kernel_rfl) (by kernel_rfl) (by kernel_rfl) (fun _ _ _ h => h) (Or.inl ⟨by rfl, ?hy18⟩) hH0 ?r18
  case hy18 => (intro w' hSw; clear hSw; go_simp; try with_reducible rfl)
  simp only [Act.put, List.setIfInBounds_toArray, List.set_cons_zero, List.set_cons_succ]
  refine' wpAnyH_take (i := 19) (oi := { dst := some 95, op := Op.move (Operand.tmp 10), type := 4, pos := "law.go:35", after := #[{ on := 18, ground := Ground.guard }], guard := some (18, true) }) (v := _) rfl (by kernel_rfl) (by kernel_rfl) (by kernel_rfl) (fun _ _ _ h => h) (Or.inl ⟨by rfl, ?hy19⟩) hH0 ?r19
  case hy19 => (intro w' hSw; clear hSw; go_simp; try with_reducible rfl)
  simp only [Act.put, List.setIfInBounds_toArray, List.set_cons_zero, List.set_cons_succ]
  refine' wpAnyH_take (i := 20) (oi := { dst := some 96, op := Op.pick (Operand.tmp 94) (Operand.tmp 95) (Operand.const (Value.bool false)), type := 4, pos := "law.go:35", after := #[{ on := 18, ground := Ground.data }, { on := 19, ground := Ground.data }], guard := none }) (v := _) rfl (by kernel_rfl) (by kernel_rfl) (by kernel_rfl) (fun _ _ _ h => h) (Or.inl ⟨by rfl, ?hy20⟩) hH0 ?r20
  case hy20 => (intro w' hSw; clear hSw; go_simp; try with_reducible rfl)
  simp only [Act.put, List.setIfInBounds_toArray, List.set_cons_zero, List.set_cons_succ]
  refine' wpAnyH_take (i := 21) (oi := { dst := some 97, op := Op.move (Operand.tmp 96), type := 4, pos := "law.go:35", after := #[{ on := 20, ground := Ground.data }, { on := 18, ground := Ground.chain }], guard := none }) (v := _) rfl (by kernel_rfl) (by kernel_rfl) (by kernel_rfl) (fun _ _ _ h => h) (Or.inl ⟨by rfl, ?hy21⟩) hH0 ?r21
  case hy21 => (intro w' hSw; clear hSw; go_simp; try with_reducible rfl)
  simp only [Act.put, List.setIfInBounds_toArray, List.set_cons_zero, List.set_cons_succ]
  refine' wpAnyH_take (i := 22) (oi := { dst := some 98, op := Op.fieldAddr 31 (Operand.tmp 9) 0, type := 0, pos := "law.go:35", after := #[{ on := 21, ground := Ground.guard }], guard := some (21, true) }) (v := _) rfl (by kernel_rfl) (by kernel_rfl) (by kernel_rfl) (fun _ _ _ h => h) (Or.inl ⟨by rfl, ?hy22⟩) hH0 ?r22
  case hy22 => (intro w' hSw; clear hSw; go_simp; try with_reducible rfl)
  simp only [Act.put, List.setIfInBounds_toArray, List.set_cons_zero, List.set_cons_succ]
  refine' wpAnyH_take (i := 23) (oi := { dst := some 99, op := Op.load 3 (Operand.tmp 98), type := 3, pos := "law.go:35", after := #[{ on := 22, ground := Ground.data }, { on := 21, ground := Ground.guard }], guard := some (21, true) }) (v := _) rfl (by kernel_rfl) (by kernel_rfl) (by kernel_rfl) (fun _ _ _ h => h) (Or.inl ⟨by rfl, ?hy23⟩) hH0 ?r23
  case hy23 => (intro w' hSw; go_simp; try with_reducible rfl)
  simp only [Act.put, List.setIfInBounds_toArray, List.set_cons_zero, List.set_cons_succ]
  refine' wpAnyH_take (i := 24) (oi := { dst := some 100, op := Op.binOp BinOp.eql 3 (Operand.tmp 99) (Operand.const (Value.int IntKind.i64 3)) 3, type := 4, pos := "law.go:35", after := #[{ on := 23, ground := Ground.data }, { on := 21, ground := Ground.guard }], guard := some (21, true) }) (v := _) rfl (by kernel_rfl) (by kernel_rfl) (by kernel_rfl) (fun _ _ _ h => h) (Or.inl ⟨by rfl, ?hy24⟩) hH0 ?r24
  case hy24 => (intro w' hSw; clear hSw; go_simp; try with_reducible rfl)
  simp only [Act.put, List.setIfInBounds_toArray, List.set_cons_zero, List.set_cons_succ]
  refine' wpAnyH_take (i := 25) (oi := { dst := some 101, op := Op.pick (Operand.tmp 97) (Operand.tmp 100) (Operand.const (Value.bool false)), type := 4, pos := "law.go:35", after := #[{ on := 21, ground := Ground.data }, { on := 24, ground := Ground.data }], guard := none }) (v := _) rfl (by kernel_rfl) (by kernel_rfl) (by kernel_rfl) (fun _ _ _ h => h) (Or.inl ⟨by rfl, ?hy25⟩) hH0 ?r25
  case hy25 => (intro w' hSw; clear hSw; go_simp; try with_reducible rfl)
  simp only [Act.put, List.setIfInBounds_toArray, List.set_cons_zero, List.set_cons_succ]
  refine' wpAnyH_take (i := 26) (oi := { dst := some 102, op := Op.move (Operand.tmp 101), type := 4, pos := "law.go:35", after := #[{ on := 25, ground := Ground.data }, { on := 21, ground := Ground.chain }], guard := none }) (v := _) rfl (by kernel_rfl) (by kernel_rfl) (by kernel_rfl) (fun _ _ _ h => h) (Or.inl ⟨by rfl, ?hy26⟩) hH0 ?r26
  case hy26 => (intro w' hSw; clear hSw; go_simp; try with_reducible rfl)
  simp only [Act.put, List.setIfInBounds_toArray, List.set_cons_zero, List.set_cons_succ]
  refine' wpAnyH_take (i := 27) (oi := { dst := some 103, op := Op.move (Operand.tmp 12), type := 4, pos := "law.go:35", after := #[{ on := 26, ground := Ground.guard }], guard := some (26, true) }) (v := _) rfl (by kernel_rfl) (by kernel_rfl) (by kernel_rfl) (fun _ _ _ h => h) (Or.inl ⟨by rfl, ?hy27⟩) hH0 ?r27
  case hy27 => (intro w' hSw; clear hSw; go_simp; try with_reducible rfl)
  simp only [Act.put, List.setIfInBounds_toArray, List.set_cons_zero, List.set_cons_succ]
  refine' wpAnyH_take (i := 28) (oi := { dst := some 104, op := Op.pick (Operand.tmp 102) (Operand.tmp 103) (Operand.const (Value.bool false)), type := 4, pos := "law.go:35", after := #[{ on := 26, ground := Ground.data }, { on := 27, ground := Ground.data }], guard := none }) (v := _) rfl (by kernel_rfl) (by kernel_rfl) (by kernel_rfl) (fun _ _ _ h => h) (Or.inl ⟨by rfl, ?hy28⟩) hH0 ?r28
  case hy28 => (intro w' hSw; clear hSw; go_simp; try with_reducible rfl)
  simp only [Act.put, List.setIfInBounds_toArray, List.set_cons_zero, List.set_cons_succ]
  refine' wpAnyH_take (i := 29) (oi := { dst := some 105, op := Op.move (Operand.tmp 104), type := 4, pos := "law.go:35", after := #[{ on := 28, ground := Ground.data }, { on := 26, ground := Ground.chain }], guard := none }) (v := _) rfl (by kernel_rfl) (by kernel_rfl) (by kernel_rfl) (fun _ _ _ h => h) (Or.inl ⟨by rfl, ?hy29⟩) hH0 ?r29
  case hy29 => (intro w' hSw; clear hSw; go_simp; try with_reducible rfl)
  simp only [Act.put, List.setIfInBounds_toArray, List.set_cons_zero, List.set_cons_succ]
  refine' wpAnyH_take (i := 30) (oi := { dst := some 106, op := Op.fieldAddr 31 (Operand.tmp 11) 0, type := 0, pos := "law.go:35", after := #[{ on := 29, ground := Ground.guard }], guard := some (29, true) }) (v := _) rfl (by kernel_rfl) (by kernel_rfl) (by kernel_rfl) (fun _ _ _ h => h) (Or.inl ⟨by rfl, ?hy30⟩) hH0 ?r30
  case hy30 => (intro w' hSw; clear hSw; go_simp; try with_reducible rfl)
  simp only [Act.put, List.setIfInBounds_toArray, List.set_cons_zero, List.set_cons_succ]
  refine' wpAnyH_take (i := 31) (oi := { dst := some 107, op := Op.load 3 (Operand.tmp 106), type := 3, pos := "law.go:35", after := #[{ on := 30, ground := Ground.data }, { on := 29, ground := Ground.guard }], guard := some (29, true) }) (v := _) rfl (by kernel_rfl) (by kernel_rfl) (by kernel_rfl) (fun _ _ _ h => h) (Or.inl ⟨by rfl, ?hy31⟩) hH0 ?r31
  case hy31 => (intro w' hSw; go_simp; try with_reducible rfl)
  simp only [Act.put, List.setIfInBounds_toArray, List.set_cons_zero, List.set_cons_succ]
  refine' wpAnyH_take (i := 32) (oi := { dst := some 108, op := Op.binOp BinOp.eql 3 (Operand.tmp 107) (Operand.const (Value.int IntKind.i64 8)) 3, type := 4, pos := "law.go:35", after := #[{ on := 31, ground := Ground.data }, { on := 29, ground := Ground.guard }], guard := some (29, true) }) (v := _) rfl (by kernel_rfl) (by kernel_rfl) (by kernel_rfl) (fun _ _ _ h => h) (Or.inl ⟨by rfl, ?hy32⟩) hH0 ?r32
  case hy32 => (intro w' hSw; clear hSw; go_simp; try with_reducible rfl)
  simp only [Act.put, List.setIfInBounds_toArray, List.set_cons_zero, List.set_cons_succ]
  refine' wpAnyH_take (i := 33) (oi := { dst := some 109, op := Op.pick (Operand.tmp 105) (Operand.tmp 108) (Operand.const (Value.bool false)), type := 4, pos := "law.go:35", after := #[{ on := 29, ground := Ground.data }, { on := 32, ground := Ground.data }], guard := none }) (v := _) rfl (by kernel_rfl) (by kernel_rfl) (by kernel_rfl) (fun _ _ _ h => h) (Or.inl ⟨by rfl, ?hy33⟩) hH0 ?r33
  case hy33 => (intro w' hSw; clear hSw; go_simp; try with_reducible rfl)
  simp only [Act.put, List.setIfInBounds_toArray, List.set_cons_zero, List.set_cons_succ]
  refine' wpAnyH_take (i := 34) (oi := { dst := some 110, op := Op.move (Operand.tmp 109), type := 4, pos := "law.go:35", after := #[{ on := 33, ground := Ground.data }, { on := 29, ground := Ground.chain }], guard := none }) (v := _) rfl (by kernel_rfl) (by kernel_rfl) (by kernel_rfl) (fun _ _ _ h => h) (Or.inl ⟨by rfl, ?hy34⟩) hH0 ?r34
  case hy34 => (intro w' hSw; clear hSw; go_simp; try with_reducible rfl)
  simp only [Act.put, List.setIfInBounds_toArray, List.set_cons_zero, List.set_cons_succ]
  refine' wpAnyH_take (i := 35) (oi := { dst := some 111, op := Op.move (Operand.tmp 14), type := 4, pos := "law.go:35", after := #[{ on := 34, ground := Ground.guard }], guard := some (34, true) }) (v := _) rfl (by kernel_rfl) (by kernel_rfl) (by kernel_rfl) (fun _ _ _ h => h) (Or.inl ⟨by rfl, ?hy35⟩) hH0 ?r35
  case hy35 => (intro w' hSw; clear hSw; go_simp; try with_reducible rfl)
  simp only [Act.put, List.setIfInBounds_toArray, List.set_cons_zero, List.set_cons_succ]
  refine' wpAnyH_take (i := 36) (oi := { dst := some 112, op := Op.unOp UnOp.not 4 (Operand.tmp 111), type := 4, pos := "law.go:35", after := #[{ on := 35, ground := Ground.data }, { on := 34, ground := Ground.guard }], guard := some (34, true) }) (v := _) rfl (by kernel_rfl) (by kernel_rfl) (by kernel_rfl) (fun _ _ _ h => h) (Or.inl ⟨by rfl, ?hy36⟩) hH0 ?r36
  case hy36 => (intro w' hSw; clear hSw; go_simp; try with_reducible rfl)
  simp only [Act.put, List.setIfInBounds_toArray, List.set_cons_zero, List.set_cons_succ]
  refine' wpAnyH_take (i := 37) (oi := { dst := some 113, op := Op.pick (Operand.tmp 110) (Operand.tmp 112) (Operand.const (Value.bool false)), type := 4, pos := "law.go:35", after := #[{ on := 34, ground := Ground.data }, { on := 36, ground := Ground.data }], guard := none }) (v := _) rfl (by kernel_rfl) (by kernel_rfl) (by kernel_rfl) (fun _ _ _ h => h) (Or.inl ⟨by rfl, ?hy37⟩) hH0 ?r37
  case hy37 => (intro w' hSw; clear hSw; go_simp; try with_reducible rfl)
  simp only [Act.put, List.setIfInBounds_toArray, List.set_cons_zero, List.set_cons_succ]
  refine' wpAnyH_take (i := 38) (oi := { dst := some 114, op := Op.move (Operand.tmp 113), type := 4, pos := "law.go:35", after := #[{ on := 37, ground := Ground.data }, { on := 34, ground := Ground.chain }], guard := none }) (v := _) rfl (by kernel_rfl) (by kernel_rfl) (by kernel_rfl) (fun _ _ _ h => h) (Or.inl ⟨by rfl, ?hy38⟩) hH0 ?r38
  case hy38 => (intro w' hSw; clear hSw; go_simp; try with_reducible rfl)
  simp only [Act.put, List.setIfInBounds_toArray, List.set_cons_zero, List.set_cons_succ]
  refine' wpAnyH_take (i := 39) (oi := { dst := some 115, op := Op.move (Operand.tmp 16), type := 4, pos := "law.go:35", after := #[{ on := 38, ground := Ground.guard }], guard := some (38, true) }) (v := _) rfl (by kernel_rfl) (by kernel_rfl) (by kernel_rfl) (fun _ _ _ h => h) (Or.inl ⟨by rfl, ?hy39⟩) hH0 ?r39
  case hy39 => (intro w' hSw; clear hSw; go_simp; try with_reducible rfl)
  simp only [Act.put, List.setIfInBounds_toArray, List.set_cons_zero, List.set_cons_succ]
  refine' wpAnyH_take (i := 40) (oi := { dst := some 116, op := Op.pick (Operand.tmp 114) (Operand.tmp 115) (Operand.const (Value.bool false)), type := 4, pos := "law.go:35", after := #[{ on := 38, ground := Ground.data }, { on := 39, ground := Ground.data }], guard := none }) (v := _) rfl (by kernel_rfl) (by kernel_rfl) (by kernel_rfl) (fun _ _ _ h => h) (Or.inl ⟨by rfl, ?hy40⟩) hH0 ?r40
  case hy40 => (intro w' hSw; clear hSw; go_simp; try with_reducible rfl)
  simp only [Act.put, List.setIfInBounds_toArray, List.set_cons_zero, List.set_cons_succ]
  refine' wpAnyH_take (i := 41) (oi := { dst := some 117, op := Op.move (Operand.tmp 116), type := 4, pos := "law.go:35", after := #[{ on := 40, ground := Ground.data }, { on := 38, ground := Ground.chain }], guard := none }) (v := _) rfl (by kernel_rfl) (by kernel_rfl) (by kernel_rfl) (fun _ _ _ h => h) (Or.inl ⟨by rfl, ?hy41⟩) hH0 ?r41
  case hy41 => (intro w' hSw; clear hSw; go_simp; try with_reducible rfl)
  simp only [Act.put, List.setIfInBounds_toArray, List.set_cons_zero, List.set_cons_succ]
  refine' wpAnyH_take (i := 42) (oi := { dst := some 118, op := Op.load 31 (Operand.tmp 15), type := 31, pos := "law.go:35", after := #[{ on := 41, ground := Ground.guard }], guard := some (41, true) }) (v := _) rfl (by kernel_rfl) (by kernel_rfl) (by kernel_rfl) (fun _ _ _ h => h) (Or.inl ⟨by rfl, ?hy42⟩) hH0 ?r42
  case hy42 => (intro w' hSw; go_simp; try with_reducible rfl)
  simp only [Act.put, List.setIfInBounds_toArray, List.set_cons_zero, List.set_cons_succ]
  refine wpAnyH_ready (rs := [43]) (by kernel_rfl) (by simp) ?_
  refine AllReadyH.cons (o := { dst := some 119, op := Op.call { callee := Callee.value (Operand.func 11), args := #[Operand.const (Value.int IntKind.i64 5)], argTypes := #[3] }, type := 31, pos := "law.go:35", after := #[{ on := 41, ground := Ground.chain }, { on := 41, ground := Ground.guard }], guard := some (41, true) }) rfl (fun K hK => ?_) AllReadyH.nil
  refine step_call_want (vs := #[.int .i64 5]) (R := fun u wz => u = .agg #[.int .i64 5, .int .i64 1, .int .i64 7] ∧ Keep (fun _ => False) w23.drew wz) (by rfl) 11 #[Operand.const (Value.int IntKind.i64 5)] #[3] rfl (by simp [Act.eval]) call11 (post_of (hr5 _)) ?_
  rintro _ w24 ⟨rfl, k24⟩
  refine hK.out _ _ (hS _ k24) (fun hH1 => ?_)
  clear hK K hH0
  simp only [Act.put, List.setIfInBounds_toArray, List.set_cons_zero, List.set_cons_succ]
  refine' wpAnyH_take (i := 44) (oi := { dst := some 120, op := Op.binOp BinOp.eql 31 (Operand.tmp 118) (Operand.tmp 119) 31, type := 4, pos := "law.go:35", after := #[{ on := 42, ground := Ground.data }, { on := 43, ground := Ground.data }, { on := 41, ground := Ground.guard }], guard := some (41, true) }) (v := _) rfl (by kernel_rfl) (by kernel_rfl) (by kernel_rfl) (fun _ _ _ h => h) (Or.inl ⟨by rfl, ?hy44⟩) hH1 ?r44
  case hy44 => (intro w' hSw; clear hSw; go_simp; try with_reducible rfl)
  simp only [Act.put, List.setIfInBounds_toArray, List.set_cons_zero, List.set_cons_succ]
  refine' wpAnyH_take (i := 45) (oi := { dst := some 121, op := Op.pick (Operand.tmp 117) (Operand.tmp 120) (Operand.const (Value.bool false)), type := 4, pos := "law.go:35", after := #[{ on := 41, ground := Ground.data }, { on := 44, ground := Ground.data }], guard := none }) (v := _) rfl (by kernel_rfl) (by kernel_rfl) (by kernel_rfl) (fun _ _ _ h => h) (Or.inl ⟨by rfl, ?hy45⟩) hH1 ?r45
  case hy45 => (intro w' hSw; clear hSw; go_simp; try with_reducible rfl)
  simp only [Act.put, List.setIfInBounds_toArray, List.set_cons_zero, List.set_cons_succ]
  refine' wpAnyH_take (i := 46) (oi := { dst := some 122, op := Op.move (Operand.tmp 121), type := 4, pos := "law.go:35", after := #[{ on := 45, ground := Ground.data }, { on := 43, ground := Ground.chain }], guard := none }) (v := _) rfl (by kernel_rfl) (by kernel_rfl) (by kernel_rfl) (fun _ _ _ h => h) (Or.inl ⟨by rfl, ?hy46⟩) hH1 ?r46
  case hy46 => (intro w' hSw; clear hSw; go_simp; try with_reducible rfl)
  simp only [Act.put, List.setIfInBounds_toArray, List.set_cons_zero, List.set_cons_succ]
  refine' wpAnyH_take (i := 47) (oi := { dst := some 123, op := Op.move (Operand.tmp 17), type := 24, pos := "law.go:35", after := #[{ on := 46, ground := Ground.guard }], guard := some (46, true) }) (v := _) rfl (by kernel_rfl) (by kernel_rfl) (by kernel_rfl) (fun _ _ _ h => h) (Or.inl ⟨by rfl, ?hy47⟩) hH1 ?r47
  case hy47 => (intro w' hSw; clear hSw; go_simp; try with_reducible rfl)
  simp only [Act.put, List.setIfInBounds_toArray, List.set_cons_zero, List.set_cons_succ]
  refine' wpAnyH_take (i := 48) (oi := { dst := some 124, op := Op.binOp BinOp.eql 24 (Operand.tmp 123) (Operand.const (Value.int IntKind.i64 0)) 24, type := 4, pos := "law.go:35", after := #[{ on := 47, ground := Ground.data }, { on := 46, ground := Ground.guard }], guard := some (46, true) }) (v := _) rfl (by kernel_rfl) (by kernel_rfl) (by kernel_rfl) (fun _ _ _ h => h) (Or.inl ⟨by rfl, ?hy48⟩) hH1 ?r48
  case hy48 => (intro w' hSw; clear hSw; go_simp; try with_reducible rfl)
  simp only [Act.put, List.setIfInBounds_toArray, List.set_cons_zero, List.set_cons_succ]
  refine' wpAnyH_take (i := 49) (oi := { dst := some 125, op := Op.pick (Operand.tmp 122) (Operand.tmp 124) (Operand.const (Value.bool false)), type := 4, pos := "law.go:35", after := #[{ on := 46, ground := Ground.data }, { on := 48, ground := Ground.data }], guard := none }) (v := _) rfl (by kernel_rfl) (by kernel_rfl) (by kernel_rfl) (fun _ _ _ h => h) (Or.inl ⟨by rfl, ?hy49⟩) hH1 ?r49
  case hy49 => (intro w' hSw; clear hSw; go_simp; try with_reducible rfl)
  simp only [Act.put, List.setIfInBounds_toArray, List.set_cons_zero, List.set_cons_succ]
  refine' wpAnyH_take (i := 50) (oi := { dst := some 126, op := Op.move (Operand.tmp 125), type := 4, pos := "law.go:35", after := #[{ on := 49, ground := Ground.data }, { on := 46, ground := Ground.chain }], guard := none }) (v := _) rfl (by kernel_rfl) (by kernel_rfl) (by kernel_rfl) (fun _ _ _ h => h) (Or.inl ⟨by rfl, ?hy50⟩) hH1 ?r50
  case hy50 => (intro w' hSw; clear hSw; go_simp; try with_reducible rfl)
  simp only [Act.put, List.setIfInBounds_toArray, List.set_cons_zero, List.set_cons_succ]
  refine' wpAnyH_take (i := 51) (oi := { dst := some 127, op := Op.move (Operand.tmp 18), type := 24, pos := "law.go:35", after := #[{ on := 50, ground := Ground.guard }], guard := some (50, true) }) (v := _) rfl (by kernel_rfl) (by kernel_rfl) (by kernel_rfl) (fun _ _ _ h => h) (Or.inl ⟨by rfl, ?hy51⟩) hH1 ?r51
  case hy51 => (intro w' hSw; clear hSw; go_simp; try with_reducible rfl)
  simp only [Act.put, List.setIfInBounds_toArray, List.set_cons_zero, List.set_cons_succ]
  refine' wpAnyH_take (i := 52) (oi := { dst := some 128, op := Op.binOp BinOp.eql 24 (Operand.tmp 127) (Operand.const (Value.int IntKind.i64 0)) 24, type := 4, pos := "law.go:35", after := #[{ on := 51, ground := Ground.data }, { on := 50, ground := Ground.guard }], guard := some (50, true) }) (v := _) rfl (by kernel_rfl) (by kernel_rfl) (by kernel_rfl) (fun _ _ _ h => h) (Or.inl ⟨by rfl, ?hy52⟩) hH1 ?r52
  case hy52 => (intro w' hSw; clear hSw; go_simp; try with_reducible rfl)
  simp only [Act.put, List.setIfInBounds_toArray, List.set_cons_zero, List.set_cons_succ]
  refine' wpAnyH_take (i := 53) (oi := { dst := some 129, op := Op.pick (Operand.tmp 126) (Operand.tmp 128) (Operand.const (Value.bool false)), type := 4, pos := "law.go:35", after := #[{ on := 50, ground := Ground.data }, { on := 52, ground := Ground.data }], guard := none }) (v := _) rfl (by kernel_rfl) (by kernel_rfl) (by kernel_rfl) (fun _ _ _ h => h) (Or.inl ⟨by rfl, ?hy53⟩) hH1 ?r53
  case hy53 => (intro w' hSw; clear hSw; go_simp; try with_reducible rfl)
  simp only [Act.put, List.setIfInBounds_toArray, List.set_cons_zero, List.set_cons_succ]
  refine' wpAnyH_take (i := 54) (oi := { dst := some 130, op := Op.move (Operand.tmp 129), type := 4, pos := "law.go:35", after := #[{ on := 53, ground := Ground.data }, { on := 50, ground := Ground.chain }], guard := none }) (v := _) rfl (by kernel_rfl) (by kernel_rfl) (by kernel_rfl) (fun _ _ _ h => h) (Or.inl ⟨by rfl, ?hy54⟩) hH1 ?r54
  case hy54 => (intro w' hSw; clear hSw; go_simp; try with_reducible rfl)
  simp only [Act.put, List.setIfInBounds_toArray, List.set_cons_zero, List.set_cons_succ]
  refine' wpAnyH_take (i := 55) (oi := { dst := some 131, op := Op.move (Operand.tmp 19), type := 40, pos := "law.go:35", after := #[{ on := 54, ground := Ground.guard }], guard := some (54, true) }) (v := _) rfl (by kernel_rfl) (by kernel_rfl) (by kernel_rfl) (fun _ _ _ h => h) (Or.inl ⟨by rfl, ?hy55⟩) hH1 ?r55
  case hy55 => (intro w' hSw; clear hSw; go_simp; try with_reducible rfl)
  simp only [Act.put, List.setIfInBounds_toArray, List.set_cons_zero, List.set_cons_succ]
  refine' wpAnyH_take (i := 56) (oi := { dst := some 132, op := Op.call { callee := Callee.builtin Builtin.len, args := #[Operand.tmp 131], argTypes := #[40] }, type := 3, pos := "law.go:35", after := #[{ on := 55, ground := Ground.data }, { on := 54, ground := Ground.guard }], guard := some (54, true) }) (v := _) rfl (by kernel_rfl) (by kernel_rfl) (by kernel_rfl) (fun _ _ _ h => h) (Or.inl ⟨by rfl, ?hy56⟩) hH1 ?r56
  case hy56 => (intro w' hSw; clear hSw; go_simp; try with_reducible rfl)
  simp only [Act.put, List.setIfInBounds_toArray, List.set_cons_zero, List.set_cons_succ]
  refine' wpAnyH_take (i := 57) (oi := { dst := some 133, op := Op.binOp BinOp.eql 3 (Operand.tmp 132) (Operand.const (Value.int IntKind.i64 2)) 3, type := 4, pos := "law.go:35", after := #[{ on := 56, ground := Ground.data }, { on := 54, ground := Ground.guard }], guard := some (54, true) }) (v := _) rfl (by kernel_rfl) (by kernel_rfl) (by kernel_rfl) (fun _ _ _ h => h) (Or.inl ⟨by rfl, ?hy57⟩) hH1 ?r57
  case hy57 => (intro w' hSw; clear hSw; go_simp; try with_reducible rfl)
  simp only [Act.put, List.setIfInBounds_toArray, List.set_cons_zero, List.set_cons_succ]
  refine' wpAnyH_take (i := 58) (oi := { dst := some 134, op := Op.pick (Operand.tmp 130) (Operand.tmp 133) (Operand.const (Value.bool false)), type := 4, pos := "law.go:35", after := #[{ on := 54, ground := Ground.data }, { on := 57, ground := Ground.data }], guard := none }) (v := _) rfl (by kernel_rfl) (by kernel_rfl) (by kernel_rfl) (fun _ _ _ h => h) (Or.inl ⟨by rfl, ?hy58⟩) hH1 ?r58
  case hy58 => (intro w' hSw; clear hSw; go_simp; try with_reducible rfl)
  simp only [Act.put, List.setIfInBounds_toArray, List.set_cons_zero, List.set_cons_succ]
  refine' wpAnyH_take (i := 59) (oi := { dst := some 135, op := Op.move (Operand.tmp 134), type := 4, pos := "law.go:35", after := #[{ on := 58, ground := Ground.data }, { on := 54, ground := Ground.chain }], guard := none }) (v := _) rfl (by kernel_rfl) (by kernel_rfl) (by kernel_rfl) (fun _ _ _ h => h) (Or.inl ⟨by rfl, ?hy59⟩) hH1 ?r59
  case hy59 => (intro w' hSw; clear hSw; go_simp; try with_reducible rfl)
  simp only [Act.put, List.setIfInBounds_toArray, List.set_cons_zero, List.set_cons_succ]
  refine' wpAnyH_take (i := 60) (oi := { dst := some 136, op := Op.move (Operand.tmp 19), type := 40, pos := "law.go:35", after := #[{ on := 59, ground := Ground.guard }], guard := some (59, true) }) (v := _) rfl (by kernel_rfl) (by kernel_rfl) (by kernel_rfl) (fun _ _ _ h => h) (Or.inl ⟨by rfl, ?hy60⟩) hH1 ?r60
  case hy60 => (intro w' hSw; clear hSw; go_simp; try with_reducible rfl)
  simp only [Act.put, List.setIfInBounds_toArray, List.set_cons_zero, List.set_cons_succ]
  refine' wpAnyH_take (i := 61) (oi := { dst := some 137, op := Op.indexAddr 40 (Operand.tmp 136) (Operand.const (Value.int IntKind.i64 0)), type := 0, pos := "law.go:35", after := #[{ on := 60, ground := Ground.data }, { on := 59, ground := Ground.guard }], guard := some (59, true) }) (v := _) rfl (by kernel_rfl) (by kernel_rfl) (by kernel_rfl) (fun _ _ _ h => h) (Or.inl ⟨by rfl, ?hy61⟩) hH1 ?r61
  case hy61 => (intro w' hSw; clear hSw; go_simp; try with_reducible rfl)
  simp only [Act.put, List.setIfInBounds_toArray, List.set_cons_zero, List.set_cons_succ]
  refine' wpAnyH_take (i := 62) (oi := { dst := some 138, op := Op.fieldAddr 31 (Operand.tmp 137) 1, type := 0, pos := "law.go:35", after := #[{ on := 61, ground := Ground.data }, { on := 59, ground := Ground.guard }], guard := some (59, true) }) (v := _) rfl (by kernel_rfl) (by kernel_rfl) (by kernel_rfl) (fun _ _ _ h => h) (Or.inl ⟨by rfl, ?hy62⟩) hH1 ?r62
  case hy62 => (intro w' hSw; clear hSw; go_simp; try with_reducible rfl)
  simp only [Act.put, List.setIfInBounds_toArray, List.set_cons_zero, List.set_cons_succ]
  refine' wpAnyH_take (i := 63) (oi := { dst := some 139, op := Op.load 3 (Operand.tmp 138), type := 3, pos := "law.go:35", after := #[{ on := 62, ground := Ground.data }, { on := 59, ground := Ground.guard }], guard := some (59, true) }) (v := _) rfl (by kernel_rfl) (by kernel_rfl) (by kernel_rfl) (fun _ _ _ h => h) (Or.inl ⟨by rfl, ?hy63⟩) hH1 ?r63
  case hy63 => (intro w' hSw; go_simp; try with_reducible rfl)
  simp only [Act.put, List.setIfInBounds_toArray, List.set_cons_zero, List.set_cons_succ]
  refine' wpAnyH_take (i := 64) (oi := { dst := some 140, op := Op.binOp BinOp.eql 3 (Operand.tmp 139) (Operand.const (Value.int IntKind.i64 4)) 3, type := 4, pos := "law.go:35", after := #[{ on := 63, ground := Ground.data }, { on := 59, ground := Ground.guard }], guard := some (59, true) }) (v := _) rfl (by kernel_rfl) (by kernel_rfl) (by kernel_rfl) (fun _ _ _ h => h) (Or.inl ⟨by rfl, ?hy64⟩) hH1 ?r64
  case hy64 => (intro w' hSw; clear hSw; go_simp; try with_reducible rfl)
  simp only [Act.put, List.setIfInBounds_toArray, List.set_cons_zero, List.set_cons_succ]
  refine' wpAnyH_take (i := 65) (oi := { dst := some 141, op := Op.pick (Operand.tmp 135) (Operand.tmp 140) (Operand.const (Value.bool false)), type := 4, pos := "law.go:35", after := #[{ on := 59, ground := Ground.data }, { on := 64, ground := Ground.data }], guard := none }) (v := _) rfl (by kernel_rfl) (by kernel_rfl) (by kernel_rfl) (fun _ _ _ h => h) (Or.inl ⟨by rfl, ?hy65⟩) hH1 ?r65
  case hy65 => (intro w' hSw; clear hSw; go_simp; try with_reducible rfl)
  simp only [Act.put, List.setIfInBounds_toArray, List.set_cons_zero, List.set_cons_succ]
  refine' wpAnyH_take (i := 66) (oi := { dst := some 142, op := Op.move (Operand.tmp 141), type := 4, pos := "law.go:35", after := #[{ on := 65, ground := Ground.data }, { on := 59, ground := Ground.chain }], guard := none }) (v := _) rfl (by kernel_rfl) (by kernel_rfl) (by kernel_rfl) (fun _ _ _ h => h) (Or.inl ⟨by rfl, ?hy66⟩) hH1 ?r66
  case hy66 => (intro w' hSw; clear hSw; go_simp; try with_reducible rfl)
  simp only [Act.put, List.setIfInBounds_toArray, List.set_cons_zero, List.set_cons_succ]
  refine' wpAnyH_take (i := 67) (oi := { dst := some 143, op := Op.move (Operand.tmp 19), type := 40, pos := "law.go:35", after := #[{ on := 66, ground := Ground.guard }], guard := some (66, true) }) (v := _) rfl (by kernel_rfl) (by kernel_rfl) (by kernel_rfl) (fun _ _ _ h => h) (Or.inl ⟨by rfl, ?hy67⟩) hH1 ?r67
  case hy67 => (intro w' hSw; clear hSw; go_simp; try with_reducible rfl)
  simp only [Act.put, List.setIfInBounds_toArray, List.set_cons_zero, List.set_cons_succ]
  refine' wpAnyH_take (i := 68) (oi := { dst := some 144, op := Op.indexAddr 40 (Operand.tmp 143) (Operand.const (Value.int IntKind.i64 1)), type := 0, pos := "law.go:35", after := #[{ on := 67, ground := Ground.data }, { on := 66, ground := Ground.guard }], guard := some (66, true) }) (v := _) rfl (by kernel_rfl) (by kernel_rfl) (by kernel_rfl) (fun _ _ _ h => h) (Or.inl ⟨by rfl, ?hy68⟩) hH1 ?r68
  case hy68 => (intro w' hSw; clear hSw; go_simp; try with_reducible rfl)
  simp only [Act.put, List.setIfInBounds_toArray, List.set_cons_zero, List.set_cons_succ]
  refine' wpAnyH_take (i := 69) (oi := { dst := some 145, op := Op.load 31 (Operand.tmp 144), type := 31, pos := "law.go:35", after := #[{ on := 68, ground := Ground.data }, { on := 66, ground := Ground.guard }], guard := some (66, true) }) (v := _) rfl (by kernel_rfl) (by kernel_rfl) (by kernel_rfl) (fun _ _ _ h => h) (Or.inl ⟨by rfl, ?hy69⟩) hH1 ?r69
  case hy69 => (intro w' hSw; go_simp; try with_reducible rfl)
  simp only [Act.put, List.setIfInBounds_toArray, List.set_cons_zero, List.set_cons_succ]
  refine wpAnyH_ready (rs := [70]) (by kernel_rfl) (by simp) ?_
  refine AllReadyH.cons (o := { dst := some 146, op := Op.call { callee := Callee.value (Operand.func 11), args := #[Operand.const (Value.int IntKind.i64 8)], argTypes := #[3] }, type := 31, pos := "law.go:35", after := #[{ on := 66, ground := Ground.chain }, { on := 66, ground := Ground.guard }], guard := some (66, true) }) rfl (fun K hK => ?_) AllReadyH.nil
  refine step_call_want (vs := #[.int .i64 8]) (R := fun u wz => u = .agg #[.int .i64 8, .int .i64 1, .int .i64 7] ∧ Keep (fun _ => False) w24 wz) (by rfl) 11 #[Operand.const (Value.int IntKind.i64 8)] #[3] rfl (by simp [Act.eval]) call11 (post_of (hr8 _)) ?_
  rintro _ w25 ⟨rfl, k25⟩
  refine hK.out _ _ (hS _ (k24.trans k25)) (fun hH2 => ?_)
  clear hK K hH1
  simp only [Act.put, List.setIfInBounds_toArray, List.set_cons_zero, List.set_cons_succ]
  refine' wpAnyH_take (i := 71) (oi := { dst := some 147, op := Op.binOp BinOp.eql 31 (Operand.tmp 145) (Operand.tmp 146) 31, type := 4, pos := "law.go:35", after := #[{ on := 69, ground := Ground.data }, { on := 70, ground := Ground.data }, { on := 66, ground := Ground.guard }], guard := some (66, true) }) (v := _) rfl (by kernel_rfl) (by kernel_rfl) (by kernel_rfl) (fun _ _ _ h => h) (Or.inl ⟨by rfl, ?hy71⟩) hH2 ?r71
  case hy71 => (intro w' hSw; clear hSw; go_simp; try with_reducible rfl)
  simp only [Act.put, List.setIfInBounds_toArray, List.set_cons_zero, List.set_cons_succ]
  refine' wpAnyH_take (i := 72) (oi := { dst := some 148, op := Op.pick (Operand.tmp 142) (Operand.tmp 147) (Operand.const (Value.bool false)), type := 4, pos := "law.go:35", after := #[{ on := 66, ground := Ground.data }, { on := 71, ground := Ground.data }], guard := none }) (v := _) rfl (by kernel_rfl) (by kernel_rfl) (by kernel_rfl) (fun _ _ _ h => h) (Or.inl ⟨by rfl, ?hy72⟩) hH2 ?r72
  case hy72 => (intro w' hSw; clear hSw; go_simp; try with_reducible rfl)
  simp only [Act.put, List.setIfInBounds_toArray, List.set_cons_zero, List.set_cons_succ]
  refine' wpAnyH_take (i := 73) (oi := { dst := some 149, op := Op.move (Operand.tmp 148), type := 4, pos := "law.go:35", after := #[{ on := 72, ground := Ground.data }, { on := 70, ground := Ground.chain }], guard := none }) (v := _) rfl (by kernel_rfl) (by kernel_rfl) (by kernel_rfl) (fun _ _ _ h => h) (Or.inl ⟨by rfl, ?hy73⟩) hH2 ?r73
  case hy73 => (intro w' hSw; clear hSw; go_simp; try with_reducible rfl)
  simp only [Act.put, List.setIfInBounds_toArray, List.set_cons_zero, List.set_cons_succ]
  refine' wpAnyH_take (i := 74) (oi := { dst := some 150, op := Op.move (Operand.tmp 3), type := 27, pos := "law.go:35", after := #[{ on := 73, ground := Ground.guard }], guard := some (73, true) }) (v := _) rfl (by kernel_rfl) (by kernel_rfl) (by kernel_rfl) (fun _ _ _ h => h) (Or.inl ⟨by rfl, ?hy74⟩) hH2 ?r74
  case hy74 => (intro w' hSw; clear hSw; go_simp; try with_reducible rfl)
  simp only [Act.put, List.setIfInBounds_toArray, List.set_cons_zero, List.set_cons_succ]
  refine wpAnyH_ready (rs := [75]) (by kernel_rfl) (by simp) ?_
  refine AllReadyH.cons (o := { dst := some 151, op := Op.call { callee := Callee.value (Operand.func 15), args := #[Operand.tmp 150], argTypes := #[27] }, type := 3, pos := "law.go:35", after := #[{ on := 74, ground := Ground.data }, { on := 73, ground := Ground.chain }, { on := 73, ground := Ground.guard }], guard := some (73, true) }) rfl (fun K hK => ?_) AllReadyH.nil
  refine step_call_want (vs := #[.pointer (some ⟨b, 0, none⟩)]) (R := fun u wz => u = .int .i64 2 ∧ wz = w25) (by rfl) 15 #[Operand.tmp 150] #[27] rfl (by simp [Act.eval]) call15 (post_of ((h23.more k24).more k25).len) ?_
  rintro _ w26 ⟨rfl, rfl⟩
  refine hK.out _ _ (hS _ (k24.trans k25)) (fun hH3 => ?_)
  clear hK K hH2
  simp only [Act.put, List.setIfInBounds_toArray, List.set_cons_zero, List.set_cons_succ]
  refine' wpAnyH_take (i := 76) (oi := { dst := some 152, op := Op.binOp BinOp.eql 3 (Operand.tmp 151) (Operand.const (Value.int IntKind.i64 2)) 3, type := 4, pos := "law.go:35", after := #[{ on := 75, ground := Ground.data }, { on := 73, ground := Ground.guard }], guard := some (73, true) }) (v := _) rfl (by kernel_rfl) (by kernel_rfl) (by kernel_rfl) (fun _ _ _ h => h) (Or.inl ⟨by rfl, ?hy76⟩) hH3 ?r76
  case hy76 => (intro w' hSw; clear hSw; go_simp; try with_reducible rfl)
  simp only [Act.put, List.setIfInBounds_toArray, List.set_cons_zero, List.set_cons_succ]
  refine' wpAnyH_take (i := 77) (oi := { dst := some 153, op := Op.pick (Operand.tmp 149) (Operand.tmp 152) (Operand.const (Value.bool false)), type := 4, pos := "law.go:35", after := #[{ on := 73, ground := Ground.data }, { on := 76, ground := Ground.data }], guard := none }) (v := _) rfl (by kernel_rfl) (by kernel_rfl) (by kernel_rfl) (fun _ _ _ h => h) (Or.inl ⟨by rfl, ?hy77⟩) hH3 ?r77
  case hy77 => (intro w' hSw; clear hSw; go_simp; try with_reducible rfl)
  simp only [Act.put, List.setIfInBounds_toArray, List.set_cons_zero, List.set_cons_succ]
  refine' wpAnyH_take (i := 78) (oi := { dst := some 154, op := Op.move (Operand.tmp 153), type := 4, pos := "law.go:35", after := #[{ on := 77, ground := Ground.data }, { on := 75, ground := Ground.chain }], guard := none }) (v := _) rfl (by kernel_rfl) (by kernel_rfl) (by kernel_rfl) (fun _ _ _ h => h) (Or.inl ⟨by rfl, ?hy78⟩) hH3 ?r78
  case hy78 => (intro w' hSw; clear hSw; go_simp; try with_reducible rfl)
  simp only [Act.put, List.setIfInBounds_toArray, List.set_cons_zero, List.set_cons_succ]
  refine' wpAnyH_take (i := 79) (oi := { dst := some 155, op := Op.move (Operand.tmp 3), type := 27, pos := "law.go:35", after := #[{ on := 78, ground := Ground.guard }], guard := some (78, true) }) (v := _) rfl (by kernel_rfl) (by kernel_rfl) (by kernel_rfl) (fun _ _ _ h => h) (Or.inl ⟨by rfl, ?hy79⟩) hH3 ?r79
  case hy79 => (intro w' hSw; clear hSw; go_simp; try with_reducible rfl)
  simp only [Act.put, List.setIfInBounds_toArray, List.set_cons_zero, List.set_cons_succ]
  refine wpAnyH_ready (rs := [80]) (by kernel_rfl) (by simp) ?_
  refine AllReadyH.cons (o := { dst := some 156, op := Op.call { callee := Callee.value (Operand.func 21), args := #[Operand.tmp 155], argTypes := #[27] }, type := 48, pos := "law.go:35", after := #[{ on := 79, ground := Ground.data }, { on := 78, ground := Ground.chain }, { on := 78, ground := Ground.guard }], guard := some (78, true) }) rfl (fun K hK => ?_) AllReadyH.nil
  refine step_call_want (vs := #[.pointer (some ⟨b, 0, none⟩)]) (R := fun u wz => u = .slice (some ⟨w26.heap.size, 0, none⟩) 2 2 ∧ Rw wz w26.heap.size (2 * 7) (vcells ex2.views) ∧ Keep (fun _ => False) w26 wz) (by rfl) 21 #[Operand.tmp 155] #[27] rfl (by simp [Act.eval]) call21 (post_of ((h23.more k24).more k25).views) ?_
  rintro _ w27 ⟨rfl, -, k27⟩
  refine hK.out _ _ (hS _ ((k24.trans k25).trans k27)) (fun hH4 => ?_)
  clear hK K hH3
  simp only [Act.put, List.setIfInBounds_toArray, List.set_cons_zero, List.set_cons_succ]
  refine' wpAnyH_take (i := 81) (oi := { dst := some 157, op := Op.call { callee := Callee.builtin Builtin.len, args := #[Operand.tmp 156], argTypes := #[48] }, type := 3, pos := "law.go:35", after := #[{ on := 80, ground := Ground.data }, { on := 78, ground := Ground.guard }], guard := some (78, true) }) (v := _) rfl (by kernel_rfl) (by kernel_rfl) (by kernel_rfl) (fun _ _ _ h => h) (Or.inl ⟨by rfl, ?hy81⟩) hH4 ?r81
  case hy81 => (intro w' hSw; clear hSw; go_simp; try with_reducible rfl)
  simp only [Act.put, List.setIfInBounds_toArray, List.set_cons_zero, List.set_cons_succ]
  refine' wpAnyH_take (i := 82) (oi := { dst := some 158, op := Op.binOp BinOp.eql 3 (Operand.tmp 157) (Operand.const (Value.int IntKind.i64 2)) 3, type := 4, pos := "law.go:35", after := #[{ on := 81, ground := Ground.data }, { on := 78, ground := Ground.guard }], guard := some (78, true) }) (v := _) rfl (by kernel_rfl) (by kernel_rfl) (by kernel_rfl) (fun _ _ _ h => h) (Or.inl ⟨by rfl, ?hy82⟩) hH4 ?r82
  case hy82 => (intro w' hSw; clear hSw; go_simp; try with_reducible rfl)
  simp only [Act.put, List.setIfInBounds_toArray, List.set_cons_zero, List.set_cons_succ]
  refine' wpAnyH_take (i := 83) (oi := { dst := some 159, op := Op.pick (Operand.tmp 154) (Operand.tmp 158) (Operand.const (Value.bool false)), type := 4, pos := "law.go:35", after := #[{ on := 78, ground := Ground.data }, { on := 82, ground := Ground.data }], guard := none }) (v := _) rfl (by kernel_rfl) (by kernel_rfl) (by kernel_rfl) (fun _ _ _ h => h) (Or.inl ⟨by rfl, ?hy83⟩) hH4 ?r83
  case hy83 => (intro w' hSw; clear hSw; go_simp; try with_reducible rfl)
  simp only [Act.put, List.setIfInBounds_toArray, List.set_cons_zero, List.set_cons_succ]
  refine' wpAnyH_take (i := 84) (oi := { dst := some 160, op := Op.move (Operand.tmp 159), type := 4, pos := "law.go:35", after := #[{ on := 83, ground := Ground.data }, { on := 80, ground := Ground.chain }], guard := none }) (v := _) rfl (by kernel_rfl) (by kernel_rfl) (by kernel_rfl) (fun _ _ _ h => h) (Or.inl ⟨by rfl, ?hy84⟩) hH4 ?r84
  case hy84 => (intro w' hSw; clear hSw; go_simp; try with_reducible rfl)
  simp only [Act.put, List.setIfInBounds_toArray, List.set_cons_zero, List.set_cons_succ]
  refine' wpAnyH_take (i := 85) (oi := { dst := some 161, op := Op.move (Operand.tmp 3), type := 27, pos := "law.go:35", after := #[{ on := 84, ground := Ground.guard }], guard := some (84, true) }) (v := _) rfl (by kernel_rfl) (by kernel_rfl) (by kernel_rfl) (fun _ _ _ h => h) (Or.inl ⟨by rfl, ?hy85⟩) hH4 ?r85
  case hy85 => (intro w' hSw; clear hSw; go_simp; try with_reducible rfl)
  simp only [Act.put, List.setIfInBounds_toArray, List.set_cons_zero, List.set_cons_succ]
  refine wpAnyH_ready (rs := [86]) (by kernel_rfl) (by simp) ?_
  refine AllReadyH.cons (o := { dst := some 162, op := Op.call { callee := Callee.value (Operand.func 16), args := #[Operand.tmp 161], argTypes := #[27] }, type := 37, pos := "law.go:35", after := #[{ on := 85, ground := Ground.data }, { on := 84, ground := Ground.chain }, { on := 84, ground := Ground.guard }], guard := some (84, true) }) rfl (fun K hK => ?_) AllReadyH.nil
  refine step_call_want (vs := #[.pointer (some ⟨b, 0, none⟩)]) (R := fun u wz => u = .int .u32 3 ∧ wz = w27) (by rfl) 16 #[Operand.tmp 161] #[27] rfl (by simp [Act.eval]) call16 (post_of (((h23.more k24).more k25).more k27).root) ?_
  rintro _ w28 ⟨rfl, rfl⟩
  refine hK.out _ _ (hS _ ((k24.trans k25).trans k27)) (fun hH5 => ?_)
  clear hK K hH4
  simp only [Act.put, List.setIfInBounds_toArray, List.set_cons_zero, List.set_cons_succ]
  refine' wpAnyH_take (i := 87) (oi := { dst := some 163, op := Op.binOp BinOp.gtr 37 (Operand.tmp 162) (Operand.const (Value.int IntKind.u32 0)) 37, type := 4, pos := "law.go:35", after := #[{ on := 86, ground := Ground.data }, { on := 84, ground := Ground.guard }], guard := some (84, true) }) (v := _) rfl (by kernel_rfl) (by kernel_rfl) (by kernel_rfl) (fun _ _ _ h => h) (Or.inl ⟨by rfl, ?hy87⟩) hH5 ?r87
  case hy87 => (intro w' hSw; clear hSw; go_simp; try with_reducible rfl)
  simp only [Act.put, List.setIfInBounds_toArray, List.set_cons_zero, List.set_cons_succ]
  refine' wpAnyH_take (i := 88) (oi := { dst := some 164, op := Op.pick (Operand.tmp 160) (Operand.tmp 163) (Operand.const (Value.bool false)), type := 4, pos := "law.go:35", after := #[{ on := 84, ground := Ground.data }, { on := 87, ground := Ground.data }], guard := none }) (v := _) rfl (by kernel_rfl) (by kernel_rfl) (by kernel_rfl) (fun _ _ _ h => h) (Or.inl ⟨by rfl, ?hy88⟩) hH5 ?r88
  case hy88 => (intro w' hSw; clear hSw; go_simp; try with_reducible rfl)
  simp only [Act.put, List.setIfInBounds_toArray, List.set_cons_zero, List.set_cons_succ]
  refine' wpAnyH_take (i := 89) (oi := { dst := some 0, op := Op.assign (Operand.tmp 164), type := 4, pos := "law.go:35", after := ([{ on := 88, ground := Ground.data }, { on := 86, ground := Ground.chain }, { on := 0, ground := Ground.phase }, { on := 1, ground := Ground.phase }, { on := 2, ground := Ground.phase }, { on := 3, ground := Ground.phase }, { on := 4, ground := Ground.phase }, { on := 5, ground := Ground.phase }, { on := 6, ground := Ground.phase }, { on := 7, ground := Ground.phase }, { on := 8, ground := Ground.phase }, { on := 9, ground := Ground.phase }, { on := 10, ground := Ground.phase }, { on := 11, ground := Ground.phase }, { on := 12, ground := Ground.phase }, { on := 13, ground := Ground.phase }, { on := 14, ground := Ground.phase }, { on := 15, ground := Ground.phase }, { on := 16, ground := Ground.phase }, { on := 17, ground := Ground.phase }, { on := 18, ground := Ground.phase }, { on := 19, ground := Ground.phase }, { on := 20, ground := Ground.phase }, { on := 21, ground := Ground.phase }, { on := 22, ground := Ground.phase }, { on := 23, ground := Ground.phase }, { on := 24, ground := Ground.phase }, { on := 25, ground := Ground.phase }, { on := 26, ground := Ground.phase }, { on := 27, ground := Ground.phase }, { on := 28, ground := Ground.phase }, { on := 29, ground := Ground.phase }, { on := 30, ground := Ground.phase }, { on := 31, ground := Ground.phase }, { on := 32, ground := Ground.phase }, { on := 33, ground := Ground.phase }, { on := 34, ground := Ground.phase }, { on := 35, ground := Ground.phase }, { on := 36, ground := Ground.phase }, { on := 37, ground := Ground.phase }, { on := 38, ground := Ground.phase }, { on := 39, ground := Ground.phase }, { on := 40, ground := Ground.phase }, { on := 41, ground := Ground.phase }, { on := 42, ground := Ground.phase }].append [{ on := 43, ground := Ground.phase }, { on := 44, ground := Ground.phase }, { on := 45, ground := Ground.phase }, { on := 46, ground := Ground.phase }, { on := 47, ground := Ground.phase }, { on := 48, ground := Ground.phase }, { on := 49, ground := Ground.phase }, { on := 50, ground := Ground.phase }, { on := 51, ground := Ground.phase }, { on := 52, ground := Ground.phase }, { on := 53, ground := Ground.phase }, { on := 54, ground := Ground.phase }, { on := 55, ground := Ground.phase }, { on := 56, ground := Ground.phase }, { on := 57, ground := Ground.phase }, { on := 58, ground := Ground.phase }, { on := 59, ground := Ground.phase }, { on := 60, ground := Ground.phase }, { on := 61, ground := Ground.phase }, { on := 62, ground := Ground.phase }, { on := 63, ground := Ground.phase }, { on := 64, ground := Ground.phase }, { on := 65, ground := Ground.phase }, { on := 66, ground := Ground.phase }, { on := 67, ground := Ground.phase }, { on := 68, ground := Ground.phase }, { on := 69, ground := Ground.phase }, { on := 70, ground := Ground.phase }, { on := 71, ground := Ground.phase }, { on := 72, ground := Ground.phase }, { on := 73, ground := Ground.phase }, { on := 74, ground := Ground.phase }, { on := 75, ground := Ground.phase }, { on := 76, ground := Ground.phase }, { on := 77, ground := Ground.phase }, { on := 78, ground := Ground.phase }, { on := 79, ground := Ground.phase }, { on := 80, ground := Ground.phase }, { on := 81, ground := Ground.phase }, { on := 82, ground := Ground.phase }, { on := 83, ground := Ground.phase }, { on := 84, ground := Ground.phase }, { on := 85, ground := Ground.phase }, { on := 86, ground := Ground.phase }, { on := 87, ground := Ground.phase }, { on := 88, ground := Ground.phase }]).toArray, guard := none }) (v := _) rfl (by kernel_rfl) (by kernel_rfl) (by kernel_rfl) (fun _ _ _ h => h) (Or.inl ⟨by rfl, ?hy89⟩) hH5 ?r89
  case hy89 => (intro w' hSw; clear hSw; go_simp; try with_reducible rfl)
  simp only [Act.put, List.setIfInBounds_toArray, List.set_cons_zero]
  refine wpAnyH_done (by kernel_rfl) ?_ _
  refine NoPanic.normal ?_
  have HK := (((h23.more k24).more k25).more k27).keep
  clear hS hr5 hr8 h23 k24 k25 k27
  go_wp2_with fail
  go_ret
  exact ⟨rfl, HK⟩
end Tg
end Go.Proofs.Ytnipckcpnbdhhaa
