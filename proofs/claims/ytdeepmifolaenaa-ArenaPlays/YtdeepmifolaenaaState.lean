/-
  The program's arena beside the statement's own rows (free list, live nodes, fields), and what each call makes of them.
-/
import Derived.Test.YtdeepmifolaenaaActs
namespace Go.Proofs.Ytdeepmifolaenaa
open Go.ChangeShapes Go.WideShapes Go.ChangeAt Go.RowKit
namespace Tg

theorem Keep.l {p k L : Nat} {a w : World} (h : Keep (Own p k) a w) : Keep (fun b => b = p ∨ b = k ∨ b = L) a w := h.mono (fun x _ e => by rcases e with e | e <;> simp [e])

/-- All lies apart, made since w: the arena in p and k, the live nodes in L, their fields in M, the free list at fa. -/
structure Pl (w wr : World) (p k L M : Nat) (s : Ar) (l : List Nat) (nf : Nat → Nat → Int) (fa : Option Addr) (cap : Nat) : Prop where
  ar : Mk w wr p k s l
  live : Blk wr L (s.N + 1) (fun x => .bool (s.live x))
  node : Blk wr M ((s.N + 1) * 6) (fun i => nval (i % 6) (nf (i / 6) (i % 6)))
  same : ∀ x, s.live x = true → ∀ j, j < 6 → nf x j = s.fld x j
  row : Tw.Row wr fa l.length cap (ints l)
  rown : ∀ b o, fa = some ⟨b, o, none⟩ → w.heap.size ≤ b ∧ b ≠ p ∧ b ≠ k ∧ b ≠ L ∧ b ≠ M
  lp : L ≠ p
  lk : L ≠ k
  mp : M ≠ p
  mk2 : M ≠ k
  lm : L ≠ M
  nl : w.heap.size ≤ L
  nm : w.heap.size ≤ M

theorem Pl.more {w wr w' : World} {p k L M : Nat} {s : Ar} {l : List Nat} {nf : Nat → Nat → Int} {fa : Option Addr} {cap : Nat} (h : Pl w wr p k L M s l nf fa cap) (e : Keep (fun _ => False) wr w') : Pl w w' p k L M s l nf fa cap :=
  ⟨h.ar.more e, h.live.keep e (fun e => e), h.node.keep e (fun e => e), h.same, h.row.keep e (fun _ _ _ e => e), h.rown, h.lp, h.lk, h.mp, h.mk2, h.lm, h.nl, h.nm⟩
theorem Pl.drewN {w wr : World} {p k L M : Nat} {s : Ar} {l : List Nat} {nf : Nat → Nat → Int} {fa : Option Addr} {cap : Nat} (h : Pl w wr p k L M s l nf fa cap) (n : Nat) : Pl w (wr.drewN n) p k L M s l nf fa cap := h.more ((Keep.refl _ _).drewN n)

theorem Pl.liveAt {w wr : World} {p k L M : Nat} {s : Ar} {l : List Nat} {nf : Nat → Nat → Int} {fa : Option Addr} {cap : Nat} (h : Pl w wr p k L M s l nf fa cap) {x : Nat} (hx : x ≤ s.N) :
    wr.cell? ⟨L, x, none⟩ = some (.bool (s.live x)) ∧ wr.frozen? ⟨L, x, none⟩ = false := h.live x (by omega)

/-- The first of the free list, and what is behind it. -/
theorem Pl.head {w wr : World} {p k L M : Nat} {s : Ar} {x : Nat} {r : List Nat} {nf : Nat → Nat → Int} {fa : Option Addr} {cap : Nat} (h : Pl w wr p k L M s (x :: r) nf fa cap) :
    ∃ b o, fa = some ⟨b, o, none⟩ ∧ wr.cell? ⟨b, o, none⟩ = some (.int .u32 (x : Int)) ∧ r.length + 1 ≤ cap ∧ cap ≤ 9223372036854775807 ∧
      Tw.Row wr (some ⟨b, o + 1, none⟩) r.length (cap - 1) (ints r) ∧ w.heap.size ≤ b ∧ b ≠ p ∧ b ≠ k ∧ b ≠ L ∧ b ≠ M := by
  obtain ⟨h1, h2, h3, h4, h5⟩ := h.row
  simp only [List.length_cons] at h1 h2 h5
  rcases h5 with h0 | ⟨b, o, rfl, hc⟩
  · omega
  refine ⟨b, o, rfl, ?_, h2, h3, ⟨ints_len r, by omega, by omega, fun n hn => h4 n (by simp only [ints, List.map_cons, List.mem_cons] at hn ⊢; exact Or.inr hn), Or.inr ⟨b, o + 1, rfl, fun i hi => ?_⟩⟩, h.rown b o rfl⟩
  · have := hc 0 (by omega)
    simpa [ints] using this
  · have := hc (i + 1) (by omega)
    rw [show o + 1 + i = o + (i + 1) by omega, this]
    rfl

theorem six_of {x y : Nat} (hy : x * 6 ≤ y ∧ y < x * 6 + 6) : y / 6 = x ∧ y - x * 6 = y % 6 := by omega
theorem six_ne {x y : Nat} (hy : ¬ (x * 6 ≤ y ∧ y < x * 6 + 6)) : y / 6 ≠ x := by omega

/-- A node's fields are written among the statement's own. -/
theorem nodes_set {w : World} {M N : Nat} {nf : Nat → Nat → Int} (h : Blk w M ((N + 1) * 6) (fun i => nval (i % 6) (nf (i / 6) (i % 6)))) {x : Nat} (hx : x ≤ N) (n : Nat → Int) :
    Blk (w.setCells M (x * 6) ((List.range 6).map fun j => nval j (n j))) M ((N + 1) * 6) (fun i => nval (i % 6) ((fun y j => if y = x then n j else nf y j) (i / 6) (i % 6))) := by
  refine (h.setCells (x * 6) 6 _ (by omega)).congr (fun i hi => ?_)
  by_cases e : x * 6 ≤ i ∧ i < x * 6 + 6
  · obtain ⟨e1, e2⟩ := six_of e
    rw [if_pos e, e1, e2]
    simp
  · rw [if_neg e]
    simp only [if_neg (six_ne e)]

theorem Pl.took {w wr w1 : World} {p k L M : Nat} {s : Ar} {x : Nat} {r : List Nat} {nf : Nat → Nat → Int} {fa : Option Addr} {cap : Nat} (h : Pl w wr p k L M s (x :: r) nf fa cap) (hm : Mk w w1 p k s.take r) (hk : Keep (Own p k) wr w1) :
    (w1.cell? ⟨L, x, none⟩ = some (.bool (s.live x)) ∧ w1.frozen? ⟨L, x, none⟩ = false) ∧ ∃ w3, (Instr.storeAt 40 (.pointer (some ⟨M, x * 6, none⟩)) (.agg (nodeA fun _ => 0))).run Try.prog (w1.setCell ⟨L, x, none⟩ (.bool true)) = .ok () w3 ∧
      ∀ fa' cap', Tw.Row wr fa' r.length cap' (ints r) → (∀ b o, fa' = some ⟨b, o, none⟩ → w.heap.size ≤ b ∧ b ≠ p ∧ b ≠ k ∧ b ≠ L ∧ b ≠ M) → Pl w w3 p k L M s.take r (fun y j => if y = x then 0 else nf y j) fa' cap' := by
  have hx := h.ar.ok.range x (by simp)
  have hf : s.first = x := h.ar.ok.lnk.1
  have hl1 := h.live.keep hk (by simp [Own, h.lp, h.lk])
  have hn1 := h.node.keep hk (by simp [Own, h.mp, h.mk2])
  refine ⟨hl1 x (by omega), _, store_node (hn1.other (a := ⟨L, x, none⟩) (Ne.symm h.lm) _) (o := x * 6) (by omega) (fun _ => 0), fun fa' cap' hr' hb' => ?_⟩
  have hkL : Keep (fun b => b = L) w1 (w1.setCell ⟨L, x, none⟩ (.bool true)) := (Keep.refl (fun b => b = L) w1).setCell (p := ⟨L, _, none⟩) (Or.inl rfl) _
  have hkM : Keep (fun b => b = M) (w1.setCell ⟨L, x, none⟩ (.bool true)) ((w1.setCell ⟨L, x, none⟩ (.bool true)).setCells M (x * 6) ((List.range 6).map fun j => nval j 0)) := (Keep.refl (fun b => b = M) _).setCells (b := M) (Or.inl rfl) _ _
  refine ⟨⟨(hm.mem.keep hkL (Ne.symm h.lp) (Ne.symm h.lk)).keep hkM (Ne.symm h.mp) (Ne.symm h.mk2), hm.ok, hm.p, hm.k, (hm.keep.next hkL (fun y hy e => by have := h.nl; omega)).next hkM (fun y hy e => by have := h.nm; omega)⟩,
    ?_, ?_, ?_, ?_, hb', h.lp, h.lk, h.mp, h.mk2, h.lm, h.nl, h.nm⟩
  · refine ((hl1.set x (.bool true)).keep hkM h.lm).congr (fun i hi => ?_)
    simp only [Ar.take, Ar.wipe, hf]
    by_cases e : i = x
    · rw [if_pos e, if_pos e]
    · rw [if_neg e, if_neg e]
  · exact nodes_set (hn1.other (a := ⟨L, x, none⟩) (Ne.symm h.lm) _) hx.2 (fun _ => 0)
  · intro y hy j hj
    simp only [Ar.take, Ar.wipe, hf] at hy ⊢
    by_cases e : y = x
    · rw [if_pos e, if_pos e]
    · rw [if_neg e] at hy
      rw [if_neg e, if_neg e]
      exact h.same y hy j hj
  · exact ((hr'.keep hk (fun b o e => by have := hb' b o e; simp [Own]; omega)).keep hkL (fun b o e => by have := hb' b o e; omega)).keep hkM (fun b o e => by have := hb' b o e; omega)

theorem Pl.gave {w wr w1 : World} {p k L M : Nat} {s : Ar} {q : Nat} {l : List Nat} {nf : Nat → Nat → Int} {fa : Option Addr} {cap : Nat} (h : Pl w wr p k L M s l nf fa cap) (hq : q < s.N) (hm : Mk w w1 p k (s.give (q + 1)) ((q + 1) :: l)) (hk : Keep (Own p k) wr w1) :
    (w1.cell? ⟨L, q + 1, none⟩ = some (.bool (s.live (q + 1))) ∧ w1.frozen? ⟨L, q + 1, none⟩ = false) ∧
    ∃ g' cap' w3, (Builtin.append_ #[32, 32] 32 #[.slice (some ⟨w1.heap.size, 0, none⟩) 1 1, .slice fa l.length cap]).run Try.prog ((w1.setCell ⟨L, q + 1, none⟩ (.bool false)).alloc (.cells #[.int .u32 ((q : Int) + 1)] 27)) = .ok (.slice (some ⟨g', 0, none⟩) (l.length + 1) cap') w3 ∧
      Pl w w3 p k L M (s.give (q + 1)) ((q + 1) :: l) nf (some ⟨g', 0, none⟩) cap' := by
  have hl1 := h.live.keep hk (by simp [Own, h.lp, h.lk])
  have hn1 := h.node.keep hk (by simp [Own, h.mp, h.mk2])
  have hr1 := h.row.keep hk (fun b o e => by have := h.rown b o e; simp [Own]; omega)
  have hlen : l.length ≤ 512 := by have := h.ar.ok.count; have := h.ar.ok.small; omega
  have hkL : Keep (fun b => b = L) w1 (w1.setCell ⟨L, q + 1, none⟩ (.bool false)) := (Keep.refl (fun b => b = L) w1).setCell (p := ⟨L, _, none⟩) (Or.inl rfl) _
  have hlL := hl1.set (q + 1) (.bool false)
  have hnL := hn1.keep hkL (Ne.symm h.lm)
  have hrL := hr1.keep hkL (fun b o e => by have := h.rown b o e; omega)
  have hmL := hm.mem.keep hkL (Ne.symm h.lp) (Ne.symm h.lk)
  have hKL : Keep (fun _ => False) w (w1.setCell ⟨L, q + 1, none⟩ (.bool false)) := hm.keep.next hkL (fun y hy e => by have := h.nl; omega)
  refine ⟨hl1 (q + 1) (by omega), ?_⟩
  have hsz : (w1.setCell ⟨L, q + 1, none⟩ (.bool false)).heap.size = w1.heap.size := by simp [World.setCell]
  generalize w1.setCell ⟨L, q + 1, none⟩ (.bool false) = w2 at *
  have hkA : Keep (fun _ => False) w2 (w2.alloc (.cells #[.int .u32 ((q : Int) + 1)] 27)) := (Keep.refl _ _).alloc _
  have hrow : Tw.Row (w2.alloc (.cells #[.int .u32 ((q : Int) + 1)] 27)) (some ⟨w1.heap.size, 0, none⟩) 1 1 [(q : Int) + 1] := Tw.row_new w2 [(q : Int) + 1] (0, 0) w1.heap.size 1 hsz.symm (by simp) (by omega) (by have := h.ar.ok.small; simp; omega)
  have hfr : Tw.Free (w2.alloc (.cells #[.int .u32 ((q : Int) + 1)] 27)) w1.heap.size 1 := fun i hi => by
    obtain rfl : i = 0 := by omega
    exact ⟨by rw [hrow.cellAt (i := 0) (by omega)]; rfl, by rw [← hsz]; exact World.frozen?_alloc_new w2 _ _ _⟩
  obtain ⟨g', cap', w3, hrun, hrow3, hk3, hg3, hf3⟩ := Tw.append_rows _ w1.heap.size 1 1 [(q : Int) + 1] hrow hfr fa l.length cap (ints l) (hrL.keep hkA (fun _ _ _ e => e)) (by omega)
  rw [Nat.add_comm 1 l.length] at hrun hrow3
  have b1 := hmL.top.lt (by omega)
  have b2 := hmL.blk.lt (by show 0 < s.N * 8; omega)
  have b3 := hlL.lt (by omega)
  have b4 := hnL.lt (by omega)
  have ng : ∀ y, y < w2.heap.size → ¬ y = w1.heap.size := fun y hy e => by omega
  have hmA := hmL.keep hkA (fun e => e) (fun e => e)
  have hgA : w1.heap.size ≤ g' := by rcases hg3 with e | e; (omega); (simp at e; omega)
  refine ⟨g', cap', w3, hrun, ⟨hmA.keep hk3 (ng _ b1) (ng _ b2), hm.ok, hm.p, hm.k, (hKL.trans hkA).next hk3 (fun y hy e => by have := hKL.size; omega)⟩, ?_, ?_, ?_, hrow3, ?_, h.lp, h.lk, h.mp, h.mk2, h.lm, h.nl, h.nm⟩
  · refine ((hlL.keep hkA (fun e => e)).keep hk3 (ng _ b3)).congr (fun i hi => ?_)
    simp only [Ar.give, Ar.wipe]
    by_cases e : i = q + 1
    · rw [if_pos e, if_pos e]
    · rw [if_neg e, if_neg e]
  · exact (hnL.keep hkA (fun e => e)).keep hk3 (ng _ b4)
  · intro y hy j hj
    simp only [Ar.give, Ar.wipe] at hy ⊢
    by_cases e : y = q + 1
    · rw [if_pos e] at hy; cases hy
    · rw [if_neg e] at hy
      rw [if_neg e]
      exact h.same y hy j hj
  · intro b o e
    simp only [Option.some.injEq, Addr.mk.injEq, and_true] at e
    obtain ⟨rfl, rfl⟩ := e
    have := hKL.size
    omega

theorem Pl.putn {w wr w1 : World} {p k L M : Nat} {s : Ar} {q : Nat} {l : List Nat} {nf : Nat → Nat → Int} {fa : Option Addr} {cap : Nat} (h : Pl w wr p k L M s l nf fa cap) (hq : q < s.N) (n : Nat → Int) (hm : Mk w w1 p k (s.set (q + 1) n) l) (hk : Keep (Own p k) wr w1) :
    ∃ w3, (Instr.storeAt 40 (.pointer (some ⟨M, (q + 1) * 6, none⟩)) (.agg (nodeA n))).run Try.prog w1 = .ok () w3 ∧ Pl w w3 p k L M (s.set (q + 1) n) l (fun y j => if y = q + 1 then n j else nf y j) fa cap := by
  have hl1 := h.live.keep hk (by simp [Own, h.lp, h.lk])
  have hn1 := h.node.keep hk (by simp [Own, h.mp, h.mk2])
  have hr1 := h.row.keep hk (fun b o e => by have := h.rown b o e; simp [Own]; omega)
  have hkM : Keep (fun b => b = M) w1 (w1.setCells M ((q + 1) * 6) ((List.range 6).map fun j => nval j (n j))) := (Keep.refl (fun b => b = M) w1).setCells (b := M) (Or.inl rfl) _ _
  refine ⟨_, store_node hn1 (o := (q + 1) * 6) (by omega) n, ⟨hm.mem.keep hkM (Ne.symm h.mp) (Ne.symm h.mk2), hm.ok, hm.p, hm.k, hm.keep.next hkM (fun y hy e => by have := h.nm; omega)⟩, hl1.keep hkM h.lm, nodes_set hn1 (by omega) n, ?_, hr1.keep hkM (fun b o e => by have := h.rown b o e; omega), h.rown, h.lp, h.lk, h.mp, h.mk2, h.lm, h.nl, h.nm⟩
  intro y hy j hj
  simp only [Ar.set] at hy ⊢
  by_cases e : y = q + 1
  · rw [if_pos e, if_pos e]
  · rw [if_neg e, if_neg e]
    exact h.same y hy j hj
end Tg
end Go.Proofs.Ytdeepmifolaenaa
