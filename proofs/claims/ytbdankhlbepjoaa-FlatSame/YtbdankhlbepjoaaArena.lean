/-
  An arena as mathematics (its nodes' cells, its free list), how it lies in memory, and what each store makes of it.
-/
import Derived.Test.YtbdankhlbepjoaaBase
import Derived.BigQuiet
import Derived.BigRegion
namespace Go.Proofs.Ytbdankhlbepjoaa
open Go.ChangeShapes Go.WideShapes Go.ChangeAt Go.RowKit
namespace Tg

/-- An arena: nodes are numbered from 1 on. -/
structure Ar where
  N : Nat
  first : Nat
  count : Nat
  fld : Nat → Nat → Int
  live : Nat → Bool
  next : Nat → Nat

/-- The list that hangs on a link. -/
def Lnk (next : Nat → Nat) : Nat → List Nat → Prop
  | f, [] => f = 0
  | f, x :: r => f = x ∧ Lnk next (next x) r

theorem Lnk.congr {n m : Nat → Nat} : ∀ {l : List Nat} {f : Nat}, Lnk n f l → (∀ x ∈ l, n x = m x) → Lnk m f l
  | [], _, h, _ => h
  | x :: r, f, h, e => ⟨h.1, by rw [← e x (by simp)]; exact h.2.congr (fun y hy => e y (by simp [hy]))⟩

/-- The free list is l; all else is live. -/
structure Ar.Ok (s : Ar) (l : List Nat) : Prop where
  small : s.N ≤ 512
  one : 1 ≤ s.N
  nodup : l.Nodup
  range : ∀ x ∈ l, 1 ≤ x ∧ x ≤ s.N
  live : ∀ x, 1 ≤ x → x ≤ s.N → (s.live x = true ↔ x ∉ l)
  lnk : Lnk s.next s.first l
  count : s.count + l.length = s.N
  nx : ∀ x, s.next x ≤ 512

/-- A node's field as a value. -/
def nval (j : Nat) (v : Int) : Value := if j < 2 then .int .u32 v else .int .i64 v

/-- The cells of the nodes' places. -/
def Ar.cell (s : Ar) (i : Nat) : Value :=
  if i % 8 < 6 then nval (i % 8) (s.fld (i / 8 + 1) (i % 8)) else if i % 8 = 6 then .bool (s.live (i / 8 + 1)) else .int .u32 (s.next (i / 8 + 1))

def Ar.top (k : Nat) (s : Ar) : Nat → Value
  | 0 => .slice (some ⟨k, 0, none⟩) s.N s.N
  | 1 => .int .u32 s.first
  | _ => .int .i64 s.count

/-- The arena lies in blocks p (the struct) and k (the nodes' places). -/
structure Mem (w : World) (p k : Nat) (s : Ar) : Prop where
  top : Blk w p 3 (s.top k)
  blk : Blk w k (s.N * 8) s.cell
  ne : p ≠ k

/-- The blocks of an arena. -/
def Own (p k : Nat) : Nat → Prop := fun b => b = p ∨ b = k

theorem Mem.drew {w : World} {p k : Nat} {s : Ar} (h : Mem w p k s) : Mem w.drew p k s := ⟨h.top, h.blk, h.ne⟩
theorem Mem.alloc {w : World} {p k : Nat} {s : Ar} (h : Mem w p k s) (o : Obj) : Mem (w.alloc o) p k s := ⟨h.top.alloc o, h.blk.alloc o, h.ne⟩
theorem Mem.keep {S : Nat → Prop} {w w' : World} {p k : Nat} {s : Ar} (h : Mem w p k s) (e : Keep S w w') (hp : ¬ S p) (hk : ¬ S k) : Mem w' p k s := ⟨h.top.keep e hp, h.blk.keep e hk, h.ne⟩
theorem Mem.congr {w : World} {p k : Nat} {s t : Ar} (h : Mem w p k s) (e : s = t) : Mem w p k t := e ▸ h
theorem Mem.tops {w : World} {p k : Nat} {s : Ar} (h : Mem w p k s) :
    w.cell? ⟨p, 0, none⟩ = some (.slice (some ⟨k, 0, none⟩) s.N s.N) ∧ w.cell? ⟨p, 1, none⟩ = some (.int .u32 s.first) ∧ w.cell? ⟨p, 2, none⟩ = some (.int .i64 s.count) ∧
    w.frozen? ⟨p, 1, none⟩ = false ∧ w.frozen? ⟨p, 2, none⟩ = false :=
  ⟨(h.top 0 (by omega)).1, (h.top 1 (by omega)).1, (h.top 2 (by omega)).1, (h.top 1 (by omega)).2, (h.top 2 (by omega)).2⟩

theorem Ar.cell_fld (s : Ar) (q j : Nat) (hj : j < 6) : s.cell (q * 8 + j) = nval j (s.fld (q + 1) j) := by
  unfold Ar.cell; rw [show (q * 8 + j) % 8 = j by omega, show (q * 8 + j) / 8 = q by omega, if_pos hj]
theorem Ar.cell_live (s : Ar) (q : Nat) : s.cell (q * 8 + 6) = .bool (s.live (q + 1)) := by
  unfold Ar.cell; rw [show (q * 8 + 6) % 8 = 6 by omega, show (q * 8 + 6) / 8 = q by omega]; rfl
theorem Ar.cell_next (s : Ar) (q : Nat) : s.cell (q * 8 + 7) = .int .u32 (s.next (q + 1)) := by
  unfold Ar.cell; rw [show (q * 8 + 7) % 8 = 7 by omega, show (q * 8 + 7) / 8 = q by omega]; rfl

/-- What the walk wants of a node's place. -/
theorem Mem.at {w : World} {p k : Nat} {s : Ar} (h : Mem w p k s) {q : Nat} (hq : q < s.N) :
    w.cell? ⟨k, q * 8 + 6, none⟩ = some (.bool (s.live (q + 1))) ∧ w.cell? ⟨k, q * 8 + 7, none⟩ = some (.int .u32 (s.next (q + 1))) ∧ w.frozen? ⟨k, q * 8 + 7, none⟩ = false := by
  have h6 := h.blk (q * 8 + 6) (by omega)
  have h7 := h.blk (q * 8 + 7) (by omega)
  rw [s.cell_live] at h6
  rw [s.cell_next] at h7
  exact ⟨h6.1, h7.1, h7.2⟩

/-- A place as 'Take' and 'Give' leave it. -/
def Ar.wipe (s : Ar) (x : Nat) (v : Bool) (n : Nat) : Ar := { s with fld := fun y j => if y = x then 0 else s.fld y j, live := fun y => if y = x then v else s.live y, next := fun y => if y = x then n else s.next y }
def Ar.set (s : Ar) (x : Nat) (n : Nat → Int) : Ar := { s with fld := fun y j => if y = x then n j else s.fld y j }

theorem eighth {i q : Nat} (h : i / 8 + 1 = q + 1) : i = q * 8 ∨ i = q * 8 + 1 ∨ i = q * 8 + 2 ∨ i = q * 8 + 3 ∨ i = q * 8 + 4 ∨ i = q * 8 + 5 ∨ i = q * 8 + 6 ∨ i = q * 8 + 7 := by omega

def wiped (v : Bool) (n : Nat) (j : Nat) : Value := if j < 2 then .int .u32 0 else if j < 6 then .int .i64 0 else if j = 6 then .bool v else .int .u32 n
theorem wiped_list (v : Bool) (n : Nat) : (List.range 8).map (wiped v n) = [.int .u32 0, .int .u32 0, .int .i64 0, .int .i64 0, .int .i64 0, .int .i64 0, .bool v, .int .u32 n] := rfl
theorem Ar.cell_wipe (s : Ar) (q : Nat) (v : Bool) (n : Nat) (i : Nat) : (if q * 8 ≤ i ∧ i < q * 8 + 8 then wiped v n (i - q * 8) else s.cell i) = (s.wipe (q + 1) v n).cell i := by
  by_cases h : q * 8 ≤ i ∧ i < q * 8 + 8
  · rw [if_pos h]
    unfold Ar.cell Ar.wipe wiped nval
    rw [show i % 8 = i - q * 8 by omega, show i / 8 + 1 = q + 1 by omega]
    simp only [if_true]
    by_cases h2 : i - q * 8 < 2
    · rw [if_pos h2, if_pos (by omega), if_pos h2]
    · rw [if_neg h2]
      by_cases h6 : i - q * 8 < 6
      · rw [if_pos h6, if_pos h6, if_neg h2]
      · rw [if_neg h6, if_neg h6]
  · rw [if_neg h]
    unfold Ar.cell Ar.wipe
    simp only [if_neg (show ¬ i / 8 + 1 = q + 1 by omega)]

theorem Ar.cell_set (s : Ar) (q : Nat) (n : Nat → Int) (i : Nat) : (if q * 8 ≤ i ∧ i < q * 8 + 6 then nval (i - q * 8) (n (i - q * 8)) else s.cell i) = (s.set (q + 1) n).cell i := by
  by_cases h : q * 8 ≤ i ∧ i < q * 8 + 6
  · rw [if_pos h]
    unfold Ar.cell Ar.set
    rw [show i % 8 = i - q * 8 by omega, show i / 8 + 1 = q + 1 by omega]
    simp only [if_true]
    rw [if_pos (by omega)]
  · rw [if_neg h]
    unfold Ar.cell Ar.set
    by_cases h6 : i % 8 < 6
    · simp only [if_pos h6, if_neg (show ¬ i / 8 + 1 = q + 1 by omega)]
    · simp only [if_neg h6]

theorem Mem.wipe {w : World} {p k : Nat} {s : Ar} (h : Mem w p k s) {q : Nat} (hq : q < s.N) (v : Bool) (n : Nat) :
    Mem (w.setCells k (q * 8) [.int .u32 0, .int .u32 0, .int .i64 0, .int .i64 0, .int .i64 0, .int .i64 0, .bool v, .int .u32 n]) p k (s.wipe (q + 1) v n) := by
  rw [← wiped_list]
  exact ⟨h.top.otherCells h.ne _ _, (h.blk.setCells (q * 8) 8 _ (by omega)).congr (fun i _ => s.cell_wipe q v n i), h.ne⟩
theorem nvals (n : Nat → Int) : (List.range 6).map (fun j => nval j (n j)) = [.int .u32 (n 0), .int .u32 (n 1), .int .i64 (n 2), .int .i64 (n 3), .int .i64 (n 4), .int .i64 (n 5)] := rfl
theorem Mem.set {w : World} {p k : Nat} {s : Ar} (h : Mem w p k s) {q : Nat} (hq : q < s.N) (n : Nat → Int) :
    Mem (w.setCells k (q * 8) [.int .u32 (n 0), .int .u32 (n 1), .int .i64 (n 2), .int .i64 (n 3), .int .i64 (n 4), .int .i64 (n 5)]) p k (s.set (q + 1) n) := by
  rw [← nvals]
  exact ⟨h.top.otherCells h.ne _ _, (h.blk.setCells (q * 8) 6 _ (by omega)).congr (fun i _ => s.cell_set q n i), h.ne⟩
theorem three {i : Nat} (h : i < 3) : i = 0 ∨ i = 1 ∨ i = 2 := by omega
theorem Mem.setFirst {w : World} {p k : Nat} {s : Ar} (h : Mem w p k s) (v : Nat) : Mem (w.setCell ⟨p, 1, none⟩ (.int .u32 v)) p k { s with first := v } :=
  ⟨(h.top.set 1 _).congr (fun i hi => by rcases three hi with rfl | rfl | rfl <;> simp [Ar.top]), h.blk.other (a := ⟨p, 1, none⟩) (Ne.symm h.ne) _, h.ne⟩
theorem Mem.setCount {w : World} {p k : Nat} {s : Ar} (h : Mem w p k s) (v : Nat) : Mem (w.setCell ⟨p, 2, none⟩ (.int .i64 v)) p k { s with count := v } :=
  ⟨(h.top.set 2 _).congr (fun i hi => by rcases three hi with rfl | rfl | rfl <;> simp [Ar.top]), h.blk.other (a := ⟨p, 2, none⟩) (Ne.symm h.ne) _, h.ne⟩

theorem Keep.p {p k : Nat} {a w : World} (h : Keep (Own p k) a w) (j : Nat) (v : Value) : Keep (Own p k) a (w.setCell ⟨p, j, none⟩ v) := h.setCell (Or.inl (Or.inl rfl)) v
theorem Keep.k {p k : Nat} {a w : World} (h : Keep (Own p k) a w) (j : Nat) (v : Value) : Keep (Own p k) a (w.setCell ⟨k, j, none⟩ v) := h.setCell (Or.inl (Or.inr rfl)) v
theorem Keep.ks {p k : Nat} {a w : World} (h : Keep (Own p k) a w) (j : Nat) (v : List Value) : Keep (Own p k) a (w.setCells k j v) := h.setCells (Or.inl (Or.inr rfl)) j v

/-- The calls on an arena. -/
def Ar.take (s : Ar) : Ar := { (s.wipe s.first true 0) with first := s.next s.first, count := s.count + 1 }
def Ar.give (s : Ar) (x : Nat) : Ar := { (s.wipe x false s.first) with first := x, count := s.count - 1 }
def Ar.new (n : Nat) : Ar := { N := n, first := 1, count := 0, fld := fun _ _ => 0, live := fun _ => false, next := fun x => if x < n then x + 1 else 0 }

theorem Ar.Ok.take {s : Ar} {x : Nat} {r : List Nat} (h : s.Ok (x :: r)) : s.take.Ok r := by
  have hx : s.first = x := h.lnk.1
  have hnd := List.nodup_cons.1 h.nodup
  have hc := h.count
  have hr := h.range x (by simp)
  refine ⟨h.small, h.one, hnd.2, fun y hy => h.range y (by simp [hy]), fun y h1 h2 => ?_, ?_, ?_, fun y => ?_⟩
  · simp only [Ar.take, Ar.wipe, hx]
    by_cases e : y = x
    · subst e; simp [hnd.1]
    · simp only [if_neg e]
      rw [h.live y h1 h2]
      simp [e]
  · simp only [Ar.take, Ar.wipe, hx]
    refine h.lnk.2.congr (fun y hy => ?_)
    rw [if_neg (by rintro rfl; exact hnd.1 hy)]
  · simp only [Ar.take, Ar.wipe, List.length_cons] at *
    omega
  · simp only [Ar.take, Ar.wipe]
    split
    · omega
    · exact h.nx y

theorem Ar.Ok.give {s : Ar} {x : Nat} {l : List Nat} (h : s.Ok l) (h1 : 1 ≤ x) (h2 : x ≤ s.N) (hl : s.live x = true) : (s.give x).Ok (x :: l) := by
  have hx := (h.live x h1 h2).1 hl
  have hc := h.count
  have hlen : l.length + 1 ≤ s.N := by
    have : (x :: l).length ≤ (List.range' 1 s.N).length := by
      refine List.Nodup.length_le_of_subset (List.nodup_cons.2 ⟨hx, h.nodup⟩) (fun y hy => ?_)
      rw [List.mem_range'_1]
      rcases List.mem_cons.1 hy with rfl | hy
      · omega
      · have := h.range y hy; omega
    simpa using this
  refine ⟨h.small, h.one, List.nodup_cons.2 ⟨hx, h.nodup⟩, fun y hy => ?_, fun y k1 k2 => ?_, ⟨rfl, ?_⟩, ?_, fun y => ?_⟩
  · rcases List.mem_cons.1 hy with rfl | hy
    · exact ⟨h1, h2⟩
    · exact h.range y hy
  · simp only [Ar.give, Ar.wipe]
    by_cases e : y = x
    · subst e; simp
    · simp only [if_neg e]
      rw [h.live y k1 k2]
      simp [e]
  · simp only [Ar.give, Ar.wipe, if_true]
    refine h.lnk.congr (fun y hy => ?_)
    rw [if_neg (by rintro rfl; exact hx hy)]
  · simp only [Ar.give, Ar.wipe, List.length_cons] at *
    omega
  · simp only [Ar.give, Ar.wipe]
    split
    · cases l with
      | nil => have := h.lnk; simp only [Lnk] at this; omega
      | cons z r => have := h.lnk.1; have := h.range z (by simp); have := h.small; omega
    · exact h.nx y

theorem Ar.Ok.set {s : Ar} {l : List Nat} (h : s.Ok l) (x : Nat) (n : Nat → Int) : (s.set x n).Ok l := ⟨h.small, h.one, h.nodup, h.range, h.live, h.lnk, h.count, h.nx⟩

theorem new_lnk (n : Nat) : ∀ m a, a + m = n + 1 → 1 ≤ a → Lnk (fun x => if x < n then x + 1 else 0) (if m = 0 then 0 else a) (List.range' a m)
  | 0, a, _, _ => by simp [Lnk]
  | m + 1, a, h, h1 => by
    rw [List.range'_succ, if_neg (by omega)]
    refine ⟨rfl, ?_⟩
    have := new_lnk n m (a + 1) (by omega) (by omega)
    by_cases e : m = 0
    · subst e; simp [Lnk]; omega
    · rw [if_neg e] at this; simp only [if_pos (show a < n by omega)]; exact this

theorem Ar.new_ok {n : Nat} (h1 : 1 ≤ n) (h2 : n ≤ 512) : (Ar.new n).Ok (List.range' 1 n) := by
  refine ⟨h2, h1, List.nodup_range', fun x hx => ?_, fun x k1 k2 => ?_, ?_, ?_, fun x => ?_⟩
  · rw [List.mem_range'_1] at hx; simp only [Ar.new]; omega
  · simp only [Ar.new] at k2 ⊢
    simp [List.mem_range'_1]; omega
  · have := new_lnk n n 1 (by omega) (by omega)
    rw [if_neg (by omega)] at this
    exact this
  · simp [Ar.new]
  · simp only [Ar.new]; split <;> omega

end Tg
end Go.Proofs.Ytbdankhlbepjoaa
