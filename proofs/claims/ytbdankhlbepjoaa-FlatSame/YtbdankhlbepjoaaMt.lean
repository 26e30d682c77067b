/-
  A tree made since a world, and its calls.
-/
import Derived.Test.YtbdankhlbepjoaaViews
namespace Go.Proofs.Ytbdankhlbepjoaa
open Go.ChangeShapes Go.WideShapes Go.ChangeAt Go.RowKit
namespace Tg

/-- A whole tree, and its arena, that were made since w. -/
structure Mt (w wr : World) (b p k : Nat) (N : Nat) (l : List Nat) (t : Tr) : Prop where
  ex : ∃ s, Tt wr b p k s l t ∧ s.N = N
  b : w.heap.size ≤ b
  p : w.heap.size ≤ p
  k : w.heap.size ≤ k
  keep : Keep (fun _ => False) w wr

theorem Mt.own {w wr w' : World} {b p k N : Nat} {s : Ar} {l m : List Nat} {t u : Tr} (h : Mt w wr b p k N l t) (hT : Tt w' b p k s m u) (hN : s.N = N) (hk : Keep (Own3 b p k) wr w') : Mt w w' b p k N m u :=
  ⟨⟨s, hT, hN⟩, h.b, h.p, h.k, h.keep.next hk (fun x hx e => by have := h.b; have := h.p; have := h.k; rcases e with e | e | e <;> omega)⟩
theorem Mt.more {w wr w' : World} {b p k N : Nat} {l : List Nat} {t : Tr} (h : Mt w wr b p k N l t) (hk : Keep (fun _ => False) wr w') : Mt w w' b p k N l t := by
  obtain ⟨s, hT, hN⟩ := h.ex
  exact ⟨⟨s, hT.more hk, hN⟩, h.b, h.p, h.k, h.keep.trans hk⟩
theorem Mt.other {S : Nat → Prop} {w wr w' : World} {b p k N : Nat} {l : List Nat} {t : Tr} (h : Mt w wr b p k N l t) (hk : Keep S wr w') (hs : ∀ x, S x → w.heap.size ≤ x) (hb : ¬ S b) (hp : ¬ S p) (hkk : ¬ S k) : Mt w w' b p k N l t := by
  obtain ⟨s, hT, hN⟩ := h.ex
  exact ⟨⟨s, hT.keep hk hb hp hkk, hN⟩, h.b, h.p, h.k, h.keep.next hk (fun x hx e => by have := hs x e; omega)⟩
theorem Mt.lt {w wr : World} {b p k N : Nat} {l : List Nat} {t : Tr} (h : Mt w wr b p k N l t) : b < wr.heap.size ∧ p < wr.heap.size ∧ k < wr.heap.size := by
  obtain ⟨s, hT, hN⟩ := h.ex
  exact hT.tb.lt hT.ok.one
theorem Mt.out {w wr : World} {b p k N : Nat} {l : List Nat} {t : Tr} (h : Mt w wr b p k N l t) {g : Nat} (hg : wr.heap.size ≤ g) : ¬ Own3 b p k g := by
  have := h.lt
  rintro (e | e | e) <;> omega
theorem Mt.has {w wr : World} {b p k N : Nat} {l : List Nat} {t : Tr} (h : Mt w wr b p k N l t) {v : Int} : t.Has v ↔ t.idOf v ≠ 0 := by
  obtain ⟨s, hT, hN⟩ := h.ex
  exact Tr.idOf_has hT.ids1

theorem Mt.insert {w wr : World} {b p k N : Nat} {n : Nat} {l : List Nat} {t : Tr} (h : Mt w wr b p k N (n :: l) t) (r : Rn) (hz : t.idOf r.lba = 0) :
    Calls Try.prog 62 #[.pointer (some ⟨b, 0, none⟩), .agg (rnA r)] wr fun e w' => e = .returned (.int .i64 0) ∧ Mt w w' b p k N l (t.ins n r) ∧ Keep (Own3 b p k) wr w' := by
  have hh := h.has (v := r.lba)
  obtain ⟨s, hT, hN⟩ := h.ex
  refine (insert_new hT r (fun e => hh.1 e hz)).mono ?_
  rintro e w' ⟨rfl, ⟨s', hT', hN'⟩, hk⟩
  exact ⟨rfl, h.own hT' (hN'.trans hN) hk, hk⟩
theorem Mt.insertFull {w wr : World} {b p k N : Nat} {t : Tr} (h : Mt w wr b p k N [] t) (r : Rn) (hz : t.idOf r.lba = 0) :
    Calls Try.prog 62 #[.pointer (some ⟨b, 0, none⟩), .agg (rnA r)] wr fun e w' => e = .returned (.int .i64 5) ∧ Keep (fun _ => False) wr w' := by
  have hh := h.has (v := r.lba)
  obtain ⟨s, hT, hN⟩ := h.ex
  exact insert_full hT r (fun e => hh.1 e hz)
theorem Mt.insertOld {w wr : World} {b p k N : Nat} {l : List Nat} {t : Tr} (h : Mt w wr b p k N l t) (r : Rn) (hz : t.idOf r.lba ≠ 0) :
    Calls Try.prog 62 #[.pointer (some ⟨b, 0, none⟩), .agg (rnA r)] wr fun e w' => e = .returned (.int .i64 1) ∧ Keep (fun _ => False) wr w' := by
  have hh := h.has (v := r.lba)
  obtain ⟨s, hT, hN⟩ := h.ex
  exact insert_old hT r (hh.2 hz)
theorem Mt.delete {w wr : World} {b p k N : Nat} {l : List Nat} {t : Tr} (h : Mt w wr b p k N l t) (v : Int) (hz : t.idOf v ≠ 0) :
    Calls Try.prog 60 #[.pointer (some ⟨b, 0, none⟩), .int .i64 v] wr fun e w' => e = .returned (.int .i64 0) ∧ Mt w w' b p k N (t.idOf v :: l) (t.del v) ∧ Keep (Own3 b p k) wr w' := by
  have hh := h.has (v := v)
  obtain ⟨s, hT, hN⟩ := h.ex
  refine (delete_yes hT v (hh.2 hz)).mono ?_
  rintro e w' ⟨rfl, ⟨s', hT', hN'⟩, hk⟩
  exact ⟨rfl, h.own hT' (hN'.trans hN) hk, hk⟩
theorem Mt.deleteNo {w wr : World} {b p k N : Nat} {l : List Nat} {t : Tr} (h : Mt w wr b p k N l t) (v : Int) (hz : t.idOf v = 0) :
    Calls Try.prog 60 #[.pointer (some ⟨b, 0, none⟩), .int .i64 v] wr fun e w' => e = .returned (.int .i64 4) ∧ Keep (fun _ => False) wr w' := by
  have hh := h.has (v := v)
  obtain ⟨s, hT, hN⟩ := h.ex
  exact delete_no hT v (fun e => hh.1 e hz)
theorem Mt.change {w wr : World} {b p k N : Nat} {l : List Nat} {t : Tr} (h : Mt w wr b p k N l t) (r : Rn) (hz : t.idOf r.lba ≠ 0) :
    Calls Try.prog 61 #[.pointer (some ⟨b, 0, none⟩), .agg (rnA r)] wr fun e w' => e = .returned (.int .i64 0) ∧ Mt w w' b p k N l (t.chg r) ∧ Keep (Own3 b p k) wr w' := by
  have hh := h.has (v := r.lba)
  obtain ⟨s, hT, hN⟩ := h.ex
  refine (change_yes hT r (hh.2 hz)).mono ?_
  rintro e w' ⟨rfl, ⟨s', hT', hN'⟩, hk⟩
  exact ⟨rfl, h.own hT' (hN'.trans hN) hk, hk⟩
theorem Mt.changeNo {w wr : World} {b p k N : Nat} {l : List Nat} {t : Tr} (h : Mt w wr b p k N l t) (r : Rn) (hz : t.idOf r.lba = 0) :
    Calls Try.prog 61 #[.pointer (some ⟨b, 0, none⟩), .agg (rnA r)] wr fun e w' => e = .returned (.int .i64 4) ∧ Keep (fun _ => False) wr w' := by
  have hh := h.has (v := r.lba)
  obtain ⟨s, hT, hN⟩ := h.ex
  exact change_no hT r (fun e => hh.1 e hz)
theorem Mt.floor {w wr : World} {b p k N : Nat} {l : List Nat} {t : Tr} (h : Mt w wr b p k N l t) (v : Int) :
    Calls Try.prog 55 #[.pointer (some ⟨b, 0, none⟩), .int .i64 v] wr fun e w' => e = .returned (ansV (Tr.fl v t .nil).run) ∧ Keep (fun _ => False) wr w' := by
  obtain ⟨s, hT, hN⟩ := h.ex
  exact floor_any hT v
theorem Mt.ceil {w wr : World} {b p k N : Nat} {l : List Nat} {t : Tr} (h : Mt w wr b p k N l t) (v : Int) :
    Calls Try.prog 53 #[.pointer (some ⟨b, 0, none⟩), .int .i64 v] wr fun e w' => e = .returned (ansV (Tr.ce v t .nil).run) ∧ Keep (fun _ => False) wr w' := by
  obtain ⟨s, hT, hN⟩ := h.ex
  exact ceil_any hT v
theorem Mt.all {w wr : World} {b p k N : Nat} {l : List Nat} {t : Tr} (h : Mt w wr b p k N l t) :
    Calls Try.prog 45 #[.pointer (some ⟨b, 0, none⟩)] wr fun e w' => e = .returned (.slice (some ⟨wr.heap.size, 0, none⟩) t.views.length t.views.length) ∧ Rw w' wr.heap.size (t.views.length * 3) (rcells t.runs) ∧ Keep (fun _ => False) wr w' := by
  obtain ⟨s, hT, hN⟩ := h.ex
  exact all_any hT
theorem Mt.views {w wr : World} {b p k N : Nat} {l : List Nat} {t : Tr} (h : Mt w wr b p k N l t) :
    Calls Try.prog 56 #[.pointer (some ⟨b, 0, none⟩)] wr fun e w' => e = .returned (.slice (some ⟨wr.heap.size, 0, none⟩) t.views.length t.views.length) ∧ Rw w' wr.heap.size (t.views.length * 7) (vcells t.views) ∧ Keep (fun _ => False) wr w' := by
  obtain ⟨s, hT, hN⟩ := h.ex
  exact views_any hT
theorem Mt.len {w wr : World} {b p k N : Nat} {l : List Nat} {t : Tr} (h : Mt w wr b p k N l t) :
    Calls Try.prog 46 #[.pointer (some ⟨b, 0, none⟩)] wr fun e w' => e = .returned (.int .i64 (t.views.length : Int)) ∧ w' = wr := by
  obtain ⟨s, hT, hN⟩ := h.ex
  rw [Tr.views_len]
  exact len_any hT
theorem Mt.room {w wr : World} {b p k N : Nat} {l : List Nat} {t : Tr} (h : Mt w wr b p k N l t) : t.views.length + l.length = N := by
  obtain ⟨s, hT, hN⟩ := h.ex
  rw [Tr.views_len, ← hT.live, hT.ok.count, hN]

theorem arena_any (w : World) {n : Nat} (h1 : 1 ≤ n) (h2 : n ≤ 512) :
    Calls Try.prog 38 #[.int .i64 (n : Int)] w fun e w' => ∃ p k, e = .returned (.tuple #[.pointer (some ⟨p, 0, none⟩), .int .i64 0]) ∧ Mem w' p k (Ar.new n) ∧ w.heap.size ≤ p ∧ w.heap.size ≤ k ∧ Keep (fun _ => False) w w' := new_any h1 h2
theorem Mt.new {w wr : World} {p k n : Nat} (h1 : 1 ≤ n) (h2 : n ≤ 512) (hm : Mem wr p k (Ar.new n)) (hp : w.heap.size ≤ p) (hkk : w.heap.size ≤ k) (hK : Keep (fun _ => False) w wr) :
    Calls Try.prog 39 #[.pointer (some ⟨p, 0, none⟩)] wr fun e w' => e = .returned (.pointer (some ⟨wr.heap.size, 0, none⟩)) ∧ Mt w w' wr.heap.size p k n (List.range' 1 n) .nil ∧ Keep (fun _ => False) wr w' := by
  refine (newTree_any hm (Ar.new_ok h1 h2) rfl).mono ?_
  rintro e w' ⟨rfl, hT, hk⟩
  exact ⟨rfl, ⟨⟨_, hT, rfl⟩, hK.size, hp, hkk, hK.trans hk⟩, hk⟩

theorem ansV_some (x : Rn) : ansV (some x) = .tuple #[.agg #[.int .i64 x.lba, .int .i64 x.len, .int .i64 x.phys], .bool true] := rfl
theorem ansV_none : ansV none = .tuple #[.agg #[.int .i64 0, .int .i64 0, .int .i64 0], .bool false] := rfl

/-- A call's contract, as a step of a region. -/
theorem post_of {f : FuncId} {vs : Array Value} {v : Value} {w : World} {R : World → Prop} (h : Calls Try.prog f vs w fun e w' => e = .returned v ∧ R w') : Calls Try.prog f vs w fun e w2 => ∃ u, e = .returned u ∧ (fun u w2 => u = v ∧ R w2) u w2 :=
  h.mono (by rintro e w' ⟨rfl, h⟩; exact ⟨_, rfl, rfl, h⟩)

end Tg
end Go.Proofs.Ytbdankhlbepjoaa
