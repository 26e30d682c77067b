/-
  Deletion in a balanced ordered tree, as mathematics; the nodes' numbers that a tree has.
-/
import Derived.Test.YtbdankhlbepjoaaTurn
namespace Go.Proofs.Ytbdankhlbepjoaa
namespace Tg
theorem Tr.fixIds (t : Tr) : t.fix.ids = t.ids := by unfold Tr.ids; rw [Tr.fix_seq]
namespace Tr

/-- Two branches made one: the first node of the right one takes the place. -/
def join (l : Tr) : Tr → Tr
  | nil => l
  | node i a x c => fix (node (pop (node i a x c) nil).1 l (pop (node i a x c) nil).2.1 (pop (node i a x c) nil).2.2)
/-- A tree without the run with that Lba. -/
def del (k : Int) : Tr → Tr
  | nil => nil
  | node i l x r => if x.lba = k then join l r else if k < x.lba then fix (node i (del k l) x r) else fix (node i l x (del k r))
/-- The node of the run with that Lba; 0: none. -/
def idOf (k : Int) : Tr → Nat
  | nil => 0
  | node i l x r => if x.lba = k then i else if k < x.lba then idOf k l else idOf k r
/-- Is a run with that Lba met on the way down? -/
def Has (k : Int) : Tr → Prop
  | nil => False
  | node _ l x r => x.lba = k ∨ (k < x.lba ∧ Has k l) ∨ (x.lba < k ∧ Has k r)

theorem join_seq (l r : Tr) : (join l r).seq = l.seq ++ r.seq := by
  cases r with
  | nil => simp [join, seq]
  | node i a x c => rw [join, fix_seq, pop_seq i a x c nil, seq]
theorem join_ids (l r : Tr) : (join l r).ids = l.ids ++ r.ids := by unfold ids; rw [join_seq]; simp
theorem pop_ids (i : Nat) (l : Tr) (x : Rn) (r d : Tr) : (node i l x r).ids = (pop (node i l x r) d).1 :: (pop (node i l x r) d).2.2.ids := by
  unfold ids; rw [pop_seq i l x r d]; rfl
theorem join_bal {l r : Tr} (hl : l.Bal) (hr : r.Bal) (h1 : l.h ≤ r.h + 1) (h2 : r.h ≤ l.h + 1) : (join l r).Bal ∧ max l.h r.h ≤ (join l r).h ∧ (join l r).h ≤ max l.h r.h + 1 := by
  cases r with
  | nil => simp only [join]; refine ⟨hl, ?_, ?_⟩ <;> simp only [h] at * <;> omega
  | node i a x c =>
    rw [join]
    obtain ⟨k1, k2, k3⟩ := pop_bal i a x c nil hr
    have := fix_bal (i := (pop (node i a x c) nil).1) (x := (pop (node i a x c) nil).2.1) hl k1 (by omega) (by omega)
    refine ⟨this.1, ?_, ?_⟩
    · by_cases e : l.h ≤ (pop (node i a x c) nil).2.2.h + 1
      · have := this.2.2.2 e (by omega); omega
      · have := this.2.1; omega
    · have := this.2.2.1; omega
theorem del_bal (k : Int) : ∀ t : Tr, t.Bal → (t.del k).Bal ∧ t.h ≤ (t.del k).h + 1 ∧ (t.del k).h ≤ t.h
  | nil, _ => by simp [del, Bal, h]
  | node i l x r, hb => by
    simp only [Bal] at hb
    rw [del]
    split
    · obtain ⟨k1, k2, k3⟩ := join_bal hb.1 hb.2.1 hb.2.2.1 hb.2.2.2
      refine ⟨k1, ?_, ?_⟩ <;> simp only [h] <;> omega
    · split
      · obtain ⟨k1, k2, k3⟩ := del_bal k l hb.1
        have := fix_bal (i := i) (x := x) k1 hb.2.1 (by omega) (by omega)
        refine ⟨this.1, ?_, ?_⟩
        · simp only [h]
          by_cases e : r.h ≤ (del k l).h + 1
          · have := this.2.2.2 (by omega) e; omega
          · have := this.2.1; omega
        · simp only [h]
          by_cases e : r.h ≤ (del k l).h + 1
          · have := this.2.2.2 (by omega) e; omega
          · have := this.2.2.1; omega
      · obtain ⟨k1, k2, k3⟩ := del_bal k r hb.2.1
        have := fix_bal (i := i) (x := x) hb.1 k1 (by omega) (by omega)
        refine ⟨this.1, ?_, ?_⟩
        · simp only [h]
          by_cases e : l.h ≤ (del k r).h + 1
          · have := this.2.2.2 e (by omega); omega
          · have := this.2.1; omega
        · simp only [h]
          by_cases e : l.h ≤ (del k r).h + 1
          · have := this.2.2.2 e (by omega); omega
          · have := this.2.2.1; omega

/-- A row of nodes without those with that Lba. -/
def cutL (k : Int) (m : List (Nat × Rn)) : List (Nat × Rn) := m.filter (fun z => z.2.lba != k)
theorem cutL_id {k : Int} {m : List (Nat × Rn)} (hm : ∀ z ∈ m, z.2.lba ≠ k) : cutL k m = m := by
  unfold cutL; rw [List.filter_eq_self]; intro z hz; simpa using hm z hz
theorem del_seq (k : Int) : ∀ t : Tr, t.Ord → (t.del k).seq = cutL k t.seq
  | nil, _ => rfl
  | node i l x r, ho => by
    have ho' := List.pairwise_append.1 (show (l.seq ++ (i, x) :: r.seq).Pairwise _ from ho)
    have hc := List.pairwise_cons.1 ho'.2.1
    have hlt : ∀ z ∈ l.seq, z.2.lba < x.lba := fun z hz => ho'.2.2 z hz (i, x) (by simp)
    have hgt : ∀ z ∈ r.seq, x.lba < z.2.lba := fun z hz => hc.1 z hz
    have hsp : cutL k (node i l x r).seq = cutL k l.seq ++ (cutL k [(i, x)] ++ cutL k r.seq) := by
      simp only [cutL, seq]; rw [← List.filter_append, ← List.filter_append]; rfl
    rw [hsp, del]
    split
    · next e =>
      rw [join_seq, cutL_id (fun z hz => by have := hlt z hz; omega), cutL_id (m := r.seq) (fun z hz => by have := hgt z hz; omega)]
      simp [cutL, e]
    · next e =>
      have e1 : cutL k [(i, x)] = [(i, x)] := cutL_id (by simpa using e)
      rw [e1]
      split
      · next e2 =>
        rw [fix_seq, cutL_id (m := r.seq) (fun z hz => by have := hgt z hz; omega)]
        simp only [seq]
        rw [del_seq k l ho'.1]; rfl
      · next e2 =>
        rw [fix_seq, cutL_id (m := l.seq) (fun z hz => by have := hlt z hz; omega)]
        simp only [seq]
        rw [del_seq k r hc.2]; rfl

theorem del_sub (k : Int) : ∀ t : Tr, (t.del k).ids.Sublist t.ids
  | nil => List.Sublist.refl _
  | node i l x r => by
    rw [del]
    split
    · rw [join_ids, ids_node]; exact (List.Sublist.refl _).append (List.sublist_cons_self _ _)
    · split
      · rw [fixIds, ids_node, ids_node]; exact (del_sub k l).append (List.Sublist.refl _)
      · rw [fixIds, ids_node, ids_node]; exact (List.Sublist.refl _).append ((del_sub k r).cons_cons _)

theorem idOf_has {k : Int} : ∀ {t : Tr}, (∀ z ∈ t.ids, 1 ≤ z) → (t.Has k ↔ t.idOf k ≠ 0)
  | nil, _ => by simp [Has, idOf]
  | node i l x r, hz => by
    rw [ids_node] at hz
    have hi := hz i (by simp)
    have h1 := idOf_has (k := k) (t := l) (fun z h => hz z (by simp [h]))
    have h2 := idOf_has (k := k) (t := r) (fun z h => hz z (by simp [h]))
    rw [Has, idOf]
    split
    · next e => exact ⟨fun _ => by omega, fun _ => Or.inl e⟩
    · next e =>
      split
      · next e2 =>
        rw [← h1]
        exact ⟨fun q => by rcases q with q | q | q; exact absurd q e; exact q.2; omega, fun q => Or.inr (Or.inl ⟨e2, q⟩)⟩
      · next e2 =>
        rw [← h2]
        exact ⟨fun q => by rcases q with q | q | q; exact absurd q e; omega; exact q.2, fun q => Or.inr (Or.inr ⟨by omega, q⟩)⟩
theorem idOf_mem {k : Int} : ∀ {t : Tr}, t.Has k → t.idOf k ∈ t.ids
  | nil, q => q.elim
  | node i l x r, q => by
    rw [idOf, ids_node]
    split
    · simp
    · next e =>
      split
      · next e2 => rcases q with q | q | q; exact absurd q e; (have := idOf_mem q.2; simp [this]); omega
      · next e2 => rcases q with q | q | q; exact absurd q e; omega; (have := idOf_mem q.2; simp [this])
theorem idOf_gone {k : Int} : ∀ {t : Tr}, t.Has k → t.ids.Nodup → t.idOf k ∉ (t.del k).ids
  | nil, q, _ => q.elim
  | node i l x r, q, hn => by
    obtain ⟨n1, n2, n3, n4, n5⟩ := nd_node.1 hn
    rw [idOf, del]
    split
    · rw [join_ids]; simp [n3, n4]
    · next e =>
      split
      · next e2 =>
        have ql : l.Has k := by rcases q with q | q | q; exact absurd q e; exact q.2; omega
        have hm := idOf_mem ql
        rw [fixIds, mem_node]
        rintro (a | a | a)
        · exact idOf_gone ql n1 a
        · rw [a] at hm; exact n3 hm
        · exact n5 _ hm a
      · next e2 =>
        have qr : r.Has k := by rcases q with q | q | q; exact absurd q e; omega; exact q.2
        have hm := idOf_mem qr
        rw [fixIds, mem_node]
        rintro (a | a | a)
        · exact n5 _ a hm
        · rw [a] at hm; exact n4 hm
        · exact idOf_gone qr n2 a
/-- In an ordered tree a run is met if it is there. -/
theorem has_iff {k : Int} : ∀ {t : Tr}, t.Ord → (t.Has k ↔ ∃ z ∈ t.seq, z.2.lba = k)
  | nil, _ => by simp [Has, seq]
  | node i l x r, ho => by
    have ho' := List.pairwise_append.1 (show (l.seq ++ (i, x) :: r.seq).Pairwise _ from ho)
    have hc := List.pairwise_cons.1 ho'.2.1
    have hlt : ∀ z ∈ l.seq, z.2.lba < x.lba := fun z hz => ho'.2.2 z hz (i, x) (by simp)
    have hgt : ∀ z ∈ r.seq, x.lba < z.2.lba := fun z hz => hc.1 z hz
    rw [Has, has_iff (t := l) ho'.1, has_iff (t := r) hc.2]
    constructor
    · rintro (q | ⟨q, z, hz, e⟩ | ⟨q, z, hz, e⟩)
      · exact ⟨(i, x), by simp [seq], q⟩
      · exact ⟨z, by simp [seq, hz], e⟩
      · exact ⟨z, by simp [seq, hz], e⟩
    · rintro ⟨z, hz, e⟩
      simp only [seq, List.mem_append, List.mem_cons] at hz
      rcases hz with hz | rfl | hz
      · have := hlt z hz; exact Or.inr (Or.inl ⟨by omega, z, hz, e⟩)
      · exact Or.inl e
      · have := hgt z hz; exact Or.inr (Or.inr ⟨by omega, z, hz, e⟩)

theorem mem_ins {n : Nat} {v : Rn} {z : Nat} : ∀ {t : Tr}, z ∈ (t.ins n v).ids ↔ z = n ∨ z ∈ t.ids
  | nil => by rw [ins, mem_node]; simp [ids, seq]
  | node i l x r => by
    rw [ins]
    split
    · rw [fixIds, mem_node, mem_node, mem_ins (t := l)]; constructor
      · rintro ((h | h) | h | h) <;> simp [h]
      · rintro (h | h | h | h) <;> simp [h]
    · rw [fixIds, mem_node, mem_node, mem_ins (t := r)]; constructor
      · rintro (h | h | h | h) <;> simp [h]
      · rintro (h | h | h | h) <;> simp [h]
theorem ins_nd {n : Nat} {v : Rn} : ∀ {t : Tr}, t.ids.Nodup → n ∉ t.ids → (t.ins n v).ids.Nodup
  | nil, _, _ => by rw [ins]; simp [ids, seq]
  | node i l x r, hn, hz => by
    obtain ⟨n1, n2, n3, n4, n5⟩ := nd_node.1 hn
    rw [mem_node] at hz
    rw [ins]
    split
    · rw [fixIds, nd_node]
      refine ⟨ins_nd n1 (fun e => hz (Or.inl e)), n2, ?_, n4, ?_⟩
      · rw [mem_ins]; rintro (e | e); exact hz (Or.inr (Or.inl e.symm)); exact n3 e
      · intro y hy e
        rcases mem_ins.1 hy with rfl | hy
        · exact hz (Or.inr (Or.inr e))
        · exact n5 y hy e
    · rw [fixIds, nd_node]
      refine ⟨n1, ins_nd n2 (fun e => hz (Or.inr (Or.inr e))), n3, ?_, ?_⟩
      · rw [mem_ins]; rintro (e | e); exact hz (Or.inr (Or.inl e.symm)); exact n4 e
      · intro y hy e
        rcases mem_ins.1 e with rfl | e
        · exact hz (Or.inl hy)
        · exact n5 y hy e
end Tr
end Tg
end Go.Proofs.Ytbdankhlbepjoaa
