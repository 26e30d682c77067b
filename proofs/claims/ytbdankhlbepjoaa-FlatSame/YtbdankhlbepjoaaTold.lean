/-
  What an insertion, a deletion and a change leave of order, rule and number, as mathematics.
-/
import Derived.Test.YtbdankhlbepjoaaAsks
namespace Go.Proofs.Ytbdankhlbepjoaa
namespace Tg
namespace Tr

theorem mem_putL {n : Nat} {v : Rn} {z : Nat × Rn} : ∀ {m : List (Nat × Rn)}, z ∈ putL n v m ↔ z = (n, v) ∨ z ∈ m
  | [] => by simp [putL]
  | y :: m => by
    rw [putL]
    split
    · simp
    · rw [List.mem_cons, mem_putL (m := m), List.mem_cons]
      constructor
      · rintro (h | h | h) <;> simp [h]
      · rintro (h | h | h) <;> simp [h]
theorem putL_ord {n : Nat} {v : Rn} : ∀ {m : List (Nat × Rn)}, m.Pairwise (fun a b => a.2.lba < b.2.lba) → (∀ z ∈ m, z.2.lba ≠ v.lba) → (putL n v m).Pairwise (fun a b => a.2.lba < b.2.lba)
  | [], _, _ => by simp [putL]
  | y :: m, hp, hz => by
    obtain ⟨h1, h2⟩ := List.pairwise_cons.1 hp
    rw [putL]
    split
    · next e =>
      refine List.pairwise_cons.2 ⟨fun z hz' => ?_, hp⟩
      rcases List.mem_cons.1 hz' with rfl | hz'
      · exact e
      · have := h1 z hz'; simp only; omega
    · next e =>
      refine List.pairwise_cons.2 ⟨fun z hz' => ?_, putL_ord h2 (fun z hz' => hz z (by simp [hz']))⟩
      rcases mem_putL.1 hz' with rfl | hz'
      · have := hz y (by simp); simp only; omega
      · exact h1 z hz'
theorem ins_ord {n : Nat} {v : Rn} {t : Tr} (ho : t.Ord) (hz : ¬ t.Has v.lba) : (t.ins n v).Ord := by
  unfold Ord
  rw [ins_seq n v t ho]
  exact putL_ord ho (fun z hz' e => hz ((has_iff ho).2 ⟨z, hz', e⟩))
theorem ins_len {n : Nat} {v : Rn} : ∀ {t : Tr}, (t.ins n v).ids.length = t.ids.length + 1
  | nil => by simp [ins, ids, seq]
  | node i l x r => by
    rw [ins]
    split
    · rw [fixIds, ids_node, ids_node]; simp [ins_len (t := l)]; omega
    · rw [fixIds, ids_node, ids_node]; simp [ins_len (t := r)]; omega
theorem del_ord {k : Int} {t : Tr} (ho : t.Ord) : (t.del k).Ord := by
  unfold Ord
  rw [del_seq k t ho]
  exact List.Pairwise.filter _ ho
theorem del_len {k : Int} : ∀ {t : Tr}, t.Has k → (t.del k).ids.length + 1 = t.ids.length
  | nil, q => q.elim
  | node i l x r, q => by
    rw [del]
    split
    · rw [join_ids, ids_node]; simp; omega
    · next e =>
      split
      · next e2 =>
        have ql : l.Has k := by rcases q with q | q | q; exact absurd q e; exact q.2; omega
        rw [fixIds, ids_node, ids_node]; have := del_len ql; simp; omega
      · next e2 =>
        have qr : r.Has k := by rcases q with q | q | q; exact absurd q e; omega; exact q.2
        rw [fixIds, ids_node, ids_node]; have := del_len qr; simp; omega

/-- A tree in which the run with v's Lba is v. -/
def chg (v : Rn) : Tr → Tr
  | nil => nil
  | node i l x r => if x.lba = v.lba then node i l v r else if v.lba < x.lba then node i (chg v l) x r else node i l x (chg v r)
theorem chg_link (v : Rn) (t : Tr) : (t.chg v).link = t.link := by
  cases t with
  | nil => rfl
  | node i l x r =>
    rw [chg]
    split
    · rfl
    · split <;> rfl
theorem chg_h (v : Rn) : ∀ t : Tr, (t.chg v).h = t.h
  | nil => rfl
  | node i l x r => by
    rw [chg]
    split
    · rfl
    · split
      · simp only [h, chg_h v l]
      · simp only [h, chg_h v r]
theorem chg_ids (v : Rn) : ∀ t : Tr, (t.chg v).ids = t.ids
  | nil => rfl
  | node i l x r => by
    rw [chg]
    split
    · rw [ids_node, ids_node]
    · split
      · rw [ids_node, ids_node, chg_ids v l]
      · rw [ids_node, ids_node, chg_ids v r]
theorem chg_bal (v : Rn) : ∀ t : Tr, t.Bal → (t.chg v).Bal
  | nil, _ => trivial
  | node i l x r, hb => by
    rw [chg]
    simp only [Bal] at hb
    split
    · exact hb
    · split
      · exact ⟨chg_bal v l hb.1, hb.2.1, by rw [chg_h]; exact hb.2.2.1, by rw [chg_h]; exact hb.2.2.2⟩
      · exact ⟨hb.1, chg_bal v r hb.2.1, by rw [chg_h]; exact hb.2.2.1, by rw [chg_h]; exact hb.2.2.2⟩
/-- A row of nodes in which the run with v's Lba is v. -/
def chgL (v : Rn) (m : List (Nat × Rn)) : List (Nat × Rn) := m.map (fun z => if z.2.lba = v.lba then (z.1, v) else z)
theorem chgL_id {v : Rn} {m : List (Nat × Rn)} (hm : ∀ z ∈ m, z.2.lba ≠ v.lba) : chgL v m = m := by
  unfold chgL
  conv => rhs; rw [← List.map_id m]
  exact List.map_congr_left (fun z hz => by rw [if_neg (hm z hz)]; rfl)
theorem chg_seq (v : Rn) : ∀ t : Tr, t.Ord → (t.chg v).seq = chgL v t.seq
  | nil, _ => rfl
  | node i l x r, ho => by
    have ho' := List.pairwise_append.1 (show (l.seq ++ (i, x) :: r.seq).Pairwise _ from ho)
    have hc := List.pairwise_cons.1 ho'.2.1
    have hlt : ∀ z ∈ l.seq, z.2.lba < x.lba := fun z hz => ho'.2.2 z hz (i, x) (by simp)
    have hgt : ∀ z ∈ r.seq, x.lba < z.2.lba := fun z hz => hc.1 z hz
    have hsp : chgL v (node i l x r).seq = chgL v l.seq ++ (if x.lba = v.lba then (i, v) else (i, x)) :: chgL v r.seq := by
      simp only [chgL, seq, List.map_append, List.map_cons]
    rw [hsp, chg]
    split
    · next e => rw [chgL_id (fun z hz => by have := hlt z hz; omega), chgL_id (m := r.seq) (fun z hz => by have := hgt z hz; omega)]; rfl
    · next e =>
      split
      · next e2 => rw [chgL_id (m := r.seq) (fun z hz => by have := hgt z hz; omega), ← chg_seq v l ho'.1]; rfl
      · next e2 => rw [chgL_id (m := l.seq) (fun z hz => by have := hlt z hz; omega), ← chg_seq v r hc.2]; rfl
theorem chg_ord {v : Rn} {t : Tr} (ho : t.Ord) : (t.chg v).Ord := by
  unfold Ord
  rw [chg_seq v t ho]
  unfold chgL
  rw [List.pairwise_map]
  refine ho.imp ?_
  intro a b hab
  by_cases ea : a.2.lba = v.lba <;> by_cases eb : b.2.lba = v.lba <;> simp only [ea, eb, if_true, if_false] at * <;> omega

/-- Where a run is met, the branch has a root. -/
theorem has_sub {k : Int} : ∀ {t : Tr}, t.Has k → ∃ i a x r, t.sub k = node i a x r ∧ x.lba = k
  | nil, q => q.elim
  | node i l x r, q => by
    rw [sub]
    split
    · next e => exact ⟨i, l, x, r, rfl, e⟩
    · next e =>
      split
      · next e2 => exact has_sub (by rcases q with q | q | q; exact absurd q e; exact q.2; omega)
      · next e2 => exact has_sub (by rcases q with q | q | q; exact absurd q e; omega; exact q.2)
theorem sub_mem {k : Int} {i : Nat} {a : Tr} {x : Rn} {r : Tr} : ∀ {t : Tr}, t.sub k = node i a x r → i ∈ t.ids
  | nil, e => by cases e
  | node j l y c, e => by
    rw [sub] at e
    rw [mem_node]
    split at e
    · injection e with e1; exact Or.inr (Or.inl e1.symm)
    · split at e
      · exact Or.inl (sub_mem e)
      · exact Or.inr (Or.inr (sub_mem e))
end Tr

/-- One node's run is changed. -/
theorem Hang.chg {s : Ar} {v : Rn} {i : Nat} {a : Tr} {x : Rn} {r : Tr} : ∀ {t : Tr}, Hang s t → t.ids.Nodup → t.sub v.lba = .node i a x r → Hang (s.set i (Tr.node i a v r).flds) (t.chg v)
  | .nil, _, _, e => by cases e
  | .node j l y c, h, hn, e => by
    obtain ⟨⟨v1, v2, v3, v4⟩, hl, hc⟩ := h
    obtain ⟨n1, n2, n3, n4, n5⟩ := nd_node.1 hn
    rw [Tr.sub] at e
    rw [Tr.chg]
    split
    · next q =>
      rw [if_pos q] at e
      injection e with e1 e2 e3 e4
      subst e1; subst e2; subst e3; subst e4
      exact hl.above hc v1 v2 v3 n3 n4 v
    · next q =>
      rw [if_neg q] at e
      split
      · next q2 =>
        rw [if_pos q2] at e
        have hm := Tr.sub_mem e
        refine ⟨⟨v1, v2, v3, fun k hk => ?_⟩, Hang.chg hl n1 e, hc.set (fun z => n5 i hm z) _⟩
        have hji : ¬ j = i := by rintro rfl; exact n3 hm
        simp only [Ar.set, if_neg hji]
        rw [v4 k hk]
        simp only [Tr.flds, Tr.chg_link, Tr.chg_h]
      · next q2 =>
        rw [if_neg q2] at e
        have hm := Tr.sub_mem e
        refine ⟨⟨v1, v2, v3, fun k hk => ?_⟩, hl.set (fun z => n5 i z hm) _, Hang.chg hc n2 e⟩
        have hji : ¬ j = i := by rintro rfl; exact n4 hm
        simp only [Ar.set, if_neg hji]
        rw [v4 k hk]
        simp only [Tr.flds, Tr.chg_link, Tr.chg_h]
end Tg
end Go.Proofs.Ytbdankhlbepjoaa
