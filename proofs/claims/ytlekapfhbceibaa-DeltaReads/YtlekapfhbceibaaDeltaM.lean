/-
  Changes and runs as bytes, as mathematics: what is laid is read, what is read is laid; snapshots are no longer than records.
-/
import Derived.Test.YtlekapfhbceibaaSl
import Derived.Test.YtlekapfhbceibaaVm
namespace Go.Proofs.Ytlekapfhbceibaa
namespace Tg

/-- Bytes. -/
def Bys (b : List Int) : Prop := ∀ x ∈ b, 0 ≤ x ∧ x ≤ 255
theorem Bys.drop {b : List Int} (h : Bys b) (n : Nat) : Bys (b.drop n) := fun x hx => h x (List.mem_of_mem_drop hx)
theorem Bys.app {a b : List Int} (ha : Bys a) (hb : Bys b) : Bys (a ++ b) := fun x hx => by
  rcases List.mem_append.1 hx with h | h
  · exact ha x h
  · exact hb x h
theorem bys_vb {v : Int} (h : 0 ≤ v) : Bys (Vi.vb v) := Vi.vb_bd v h
/-- The next number, not above 2^40, and the rest. -/
def numL (b : List Int) : Option (Int × List Int) :=
  match Vi.vg 0 0 b with
  | some (v, n) => if v ≤ 1099511627776 then some (v, b.drop n) else none
  | none => none
/-- The next int, and the rest. -/
def whoL (b : List Int) : Option (Int × List Int) :=
  match numL b with
  | some (v, r) => some (Vi.unfold v, r)
  | none => none
theorem num_put {v : Int} (h : 0 ≤ v) (h2 : v ≤ 1099511627776) (r : List Int) : numL (Vi.vb v ++ r) = some (v, r) := by
  unfold numL
  rw [Vi.get_put ⟨h, by omega⟩ r]
  simp only
  rw [if_pos h2, List.drop_left]
theorem who_put {v : Int} (h : -549755813888 ≤ v) (h2 : v ≤ 549755813888) (r : List Int) : whoL (Vi.vb (Vi.fold v) ++ r) = some (v, r) := by
  have h3 : 0 ≤ Vi.fold v ∧ Vi.fold v ≤ 1099511627776 := by unfold Vi.fold; split <;> omega
  unfold whoL
  rw [num_put h3.1 h3.2 r]
  simp only
  rw [Vi.unfold_fold]
theorem put_num {b : List Int} (hb : Bys b) {v : Int} {r : List Int} (h : numL b = some (v, r)) : 0 ≤ v ∧ v ≤ 1099511627776 ∧ b = Vi.vb v ++ r ∧ Bys r := by
  unfold numL at h
  split at h
  · next v' n hv =>
    split at h
    · next hle =>
      injection h with h
      injection h with h1 h2
      subst h1
      obtain ⟨g1, g2, g3, g4⟩ := Vi.put_get hb hv
      refine ⟨g1, hle, ?_, by rw [← h2]; exact hb.drop n⟩
      rw [← g4, ← h2, List.take_append_drop]
    · cases h
  · cases h
theorem put_who {b : List Int} (hb : Bys b) {v : Int} {r : List Int} (h : whoL b = some (v, r)) : -549755813888 ≤ v ∧ v ≤ 549755813888 ∧ b = Vi.vb (Vi.fold v) ++ r ∧ Bys r := by
  unfold whoL at h
  split at h
  · next v' r' hv =>
    injection h with h
    injection h with h1 h2
    subst h1 h2
    obtain ⟨g1, g2, g3, g4⟩ := put_num hb hv
    refine ⟨?_, ?_, by rw [Vi.fold_unfold g1]; exact g3, g4⟩
    · unfold Vi.unfold; split <;> omega
    · unfold Vi.unfold; split <;> omega
  · cases h

/-- What is laid for a page. -/
def dOf (ph : Int) (x : Rn) : Int := if x.phys < 0 then 0 else if x.phys - ph < 0 then x.phys - ph else x.phys - ph + 1
/-- Where the last that had a page ended. -/
def phN (ph : Int) (x : Rn) : Int := if x.phys < 0 then ph else x.phys + x.len
/-- Changes as bytes, behind those that ended there. -/
def recB : Int → Int → List Rn → List Int
  | _, _, [] => []
  | lb, ph, x :: l => Vi.vb (Vi.fold (x.lba - lb)) ++ (Vi.vb x.len ++ (Vi.vb (Vi.fold (dOf ph x)) ++ recB (x.lba + x.len) (phN ph x) l))
/-- A record. -/
def recL (l : List Rn) : List Int := Vi.vb (l.length : Int) ++ recB 0 0 l
/-- May a change be laid? -/
abbrev MayX (x : Rn) : Prop := 0 ≤ x.lba ∧ x.lba ≤ 512 ∧ 0 ≤ x.len ∧ x.len ≤ 512 ∧ -1 ≤ x.phys ∧ x.phys ≤ 1048576
/-- May these? -/
def MayL (l : List Rn) : Prop := l.length ≤ 512 ∧ ∀ x ∈ l, MayX x
/-- The change that three numbers say. -/
def xOf (lb ph d1 n d2 : Int) : Rn := ⟨lb + d1, n, if 0 < d2 then ph + d2 - 1 else if d2 < 0 then ph + d2 else -1⟩
/-- So many changes read, and the rest. -/
def rdB : Nat → Int → Int → List Int → Option (List Rn × List Int)
  | 0, _, _, b => some ([], b)
  | k + 1, lb, ph, b =>
    match whoL b with
    | none => none
    | some (d1, b1) =>
      match numL b1 with
      | none => none
      | some (n, b2) =>
        match whoL b2 with
        | none => none
        | some (d2, b3) =>
          if d2 ≠ 0 ∧ (xOf lb ph d1 n d2).phys < 0 then none
          else match rdB k (lb + d1 + n) (phN ph (xOf lb ph d1 n d2)) b3 with
            | none => none
            | some (l, r) => some (xOf lb ph d1 n d2 :: l, r)
theorem xOf_self {lb ph : Int} {x : Rn} (h : -1 ≤ x.phys) : xOf lb ph (x.lba - lb) x.len (dOf ph x) = x := by
  unfold xOf dOf
  cases x with
  | mk a b c =>
    simp only at *
    congr 1
    · omega
    · split
      · split at * <;> omega
      · split at * <;> omega
theorem dOf_ok {lb ph : Int} {x : Rn} (h : -1 ≤ x.phys) : ¬ (dOf ph x ≠ 0 ∧ (xOf lb ph (x.lba - lb) x.len (dOf ph x)).phys < 0) := by
  rw [xOf_self h]
  intro hc
  apply hc.1
  unfold dOf
  rw [if_pos hc.2]
/-- What is laid is read. -/
theorem rd_rec : ∀ (l : List Rn) {lb ph : Int}, (∀ x ∈ l, MayX x) → 0 ≤ lb → lb ≤ 1024 → 0 ≤ ph → ph ≤ 1049088 → ∀ r, rdB l.length lb ph (recB lb ph l ++ r) = some (l, r)
  | [], _, _, _, _, _, _, _, r => rfl
  | x :: l, lb, ph, h, h1, h2, h3, h4, r => by
    have hx : MayX x := h x (by simp)
    unfold MayX at hx
    have hd : -549755813888 ≤ dOf ph x ∧ dOf ph x ≤ 549755813888 := by
      unfold dOf
      split
      · omega
      · split <;> omega
    have hph : 0 ≤ phN ph x ∧ phN ph x ≤ 1049088 := by unfold phN; split <;> omega
    have ih := rd_rec l (lb := x.lba + x.len) (ph := phN ph x) (fun y hy => h y (by simp [hy])) (by omega) (by omega) hph.1 hph.2 r
    rw [List.length_cons, rdB, recB, List.append_assoc, List.append_assoc, List.append_assoc, who_put (by omega) (by omega)]
    simp only
    rw [num_put hx.2.2.1 (by omega)]
    simp only
    rw [who_put hd.1 hd.2]
    simp only
    rw [if_neg (dOf_ok hx.2.2.2.2.1), xOf_self hx.2.2.2.2.1, show lb + (x.lba - lb) + x.len = x.lba + x.len by omega, ih]
/-- What is read is laid. -/
theorem rec_rd : ∀ (k : Nat) {lb ph : Int} {b : List Int} {l : List Rn} {r : List Int}, Bys b → rdB k lb ph b = some (l, r) → l.length = k ∧ b = recB lb ph l ++ r ∧ Bys r
  | 0, lb, ph, b, l, r, hb, h => by
    rw [rdB] at h
    injection h with h
    injection h with h1 h2
    subst h1 h2
    exact ⟨rfl, rfl, hb⟩
  | k + 1, lb, ph, b, l, r, hb, h => by
    rw [rdB] at h
    split at h
    · cases h
    · next d1 b1 e1 =>
      split at h
      · cases h
      · next n b2 e2 =>
        split at h
        · cases h
        · next d2 b3 e3 =>
          split at h
          · cases h
          · next hok =>
            split at h
            · cases h
            · next l' r' e4 =>
              injection h with h
              injection h with h5 h6
              subst h5 h6
              obtain ⟨-, -, p1, q1⟩ := put_who hb e1
              obtain ⟨n0, -, p2, q2⟩ := put_num q1 e2
              obtain ⟨-, -, p3, q3⟩ := put_who q2 e3
              obtain ⟨i1, i2, i3⟩ := rec_rd k q3 e4
              refine ⟨by simp [i1], ?_, i3⟩
              have hd : dOf ph (xOf lb ph d1 n d2) = d2 := by
                unfold dOf
                by_cases hz : d2 = 0
                · subst hz
                  unfold xOf
                  simp
                · have hnn : ¬ (xOf lb ph d1 n d2).phys < 0 := fun e => hok ⟨hz, e⟩
                  rw [if_neg hnn]
                  unfold xOf
                  simp only
                  by_cases hp : 0 < d2
                  · rw [if_pos hp, if_neg (by omega)]; omega
                  · rw [if_neg hp, if_pos (show d2 < 0 by omega), if_pos (by omega)]; omega
              rw [recB, hd, show (xOf lb ph d1 n d2).lba - lb = d1 by unfold xOf; simp only; omega, show (xOf lb ph d1 n d2).len = n from rfl, show (xOf lb ph d1 n d2).lba + n = lb + d1 + n from rfl, p1, p2, p3, i2]
              simp only [List.append_assoc]
/-- The changes of which a record tells these bytes. -/
theorem rec_iff {b : List Int} (hb : Bys b) {l : List Rn} (hl : MayL l) : recL l = b ↔ ∃ n b1, numL b = some (n, b1) ∧ n = (l.length : Int) ∧ rdB l.length 0 0 b1 = some (l, []) := by
  constructor
  · intro h
    refine ⟨(l.length : Int), recB 0 0 l, ?_, rfl, ?_⟩
    · rw [← h]
      unfold recL
      have := hl.1
      exact num_put (by omega) (by omega) _
    · have := rd_rec l hl.2 (lb := 0) (ph := 0) (by omega) (by omega) (by omega) (by omega) []
      rwa [List.append_nil] at this
  · rintro ⟨n, b1, h1, h2, h3⟩
    obtain ⟨-, -, e1, q1⟩ := put_num hb h1
    obtain ⟨-, e2, -⟩ := rec_rd _ q1 h3
    rw [List.append_nil] at e2
    unfold recL
    rw [e1, h2, e2]
/-- Different changes have different bytes. -/
theorem rec_one {a b : List Rn} (ha : MayL a) (hb : MayL b) (h : recL a = recL b) : a = b := by
  have hby : Bys (recL b) := by
    unfold recL
    refine Bys.app (bys_vb (by omega)) ?_
    have : ∀ (l : List Rn) (lb ph : Int), (∀ x ∈ l, MayX x) → Bys (recB lb ph l) := by
      intro l
      induction l with
      | nil => intro lb ph _ x hx; cases hx
      | cons x l ih =>
        intro lb ph hx
        rw [recB]
        have h1 : MayX x := hx x (by simp)
        unfold MayX at h1
        have hf : ∀ v : Int, 0 ≤ Vi.fold v := fun v => by unfold Vi.fold; split <;> omega
        exact (bys_vb (hf _)).app ((bys_vb h1.2.2.1).app ((bys_vb (hf _)).app (ih _ _ (fun y hy => hx y (by simp [hy])))))
    exact this b 0 0 hb.2
  obtain ⟨n, b1, h1, h2, h3⟩ := (rec_iff hby ha).1 h
  obtain ⟨n', b1', h1', h2', h3'⟩ := (rec_iff hby hb).1 rfl
  rw [h1] at h1'
  injection h1' with h1'
  injection h1' with e1 e2
  have hl : a.length = b.length := by omega
  rw [e2, hl, h3'] at h3
  injection h3 with h3
  injection h3 with h3
  exact h3.symm

/-- Runs as bytes, behind those that ended there. -/
def snB : Int → Int → List Rn → List Int
  | _, _, [] => []
  | lb, ph, x :: l => Vi.vb (x.lba - lb) ++ (Vi.vb (x.len - 1) ++ (Vi.vb (Vi.fold (x.phys - ph)) ++ snB (x.lba + x.len) (x.phys + x.len) l))
/-- A snapshot. -/
def snL (l : List Rn) : List Int := Vi.vb (l.length : Int) ++ snB 0 0 l
/-- May these runs be laid? -/
def FitL (l : List Rn) : Prop := l.length ≤ 512 ∧ Form l ∧ ∀ x ∈ l, x.fin ≤ 512 ∧ x.phys ≤ 1048576
/-- So many runs read, and the rest. -/
def rdS : Nat → Int → Int → List Int → Option (List Rn × List Int)
  | 0, _, _, b => some ([], b)
  | k + 1, lb, ph, b =>
    match numL b with
    | none => none
    | some (d1, b1) =>
      match numL b1 with
      | none => none
      | some (n, b2) =>
        match whoL b2 with
        | none => none
        | some (d2, b3) =>
          match rdS k (lb + d1 + (n + 1)) (ph + d2 + (n + 1)) b3 with
          | none => none
          | some (l, r) => some (⟨lb + d1, n + 1, ph + d2⟩ :: l, r)
theorem rd_sn : ∀ (l : List Rn) {lb ph : Int}, Form l → (∀ x ∈ l, lb ≤ x.lba ∧ x.fin ≤ 512 ∧ x.phys ≤ 1048576) → 0 ≤ lb → 0 ≤ ph → ph ≤ 1049088 → ∀ r, rdS l.length lb ph (snB lb ph l ++ r) = some (l, r)
  | [], _, _, _, _, _, _, _, r => rfl
  | x :: l, lb, ph, hf, h, h1, h3, h4, r => by
    obtain ⟨hx, hy, hm⟩ := Form.cons.1 hf
    have hx2 := h x (by simp)
    unfold Rn.Ok at hx
    unfold Rn.fin at hx2
    have ih := rd_sn l (lb := x.lba + x.len) (ph := x.phys + x.len) hm (fun y hyl => by
      have a1 := hy y hyl
      have a2 := h y (by simp [hyl])
      unfold Rn.fin at a1
      exact ⟨a1.1, a2.2⟩) (by omega) (by omega) (by omega) r
    rw [List.length_cons, rdS, snB, List.append_assoc, List.append_assoc, List.append_assoc, num_put (by omega) (by omega)]
    simp only
    rw [num_put (by omega) (by omega)]
    simp only
    rw [who_put (by omega) (by omega)]
    simp only
    rw [show lb + (x.lba - lb) + (x.len - 1 + 1) = x.lba + x.len by omega, show ph + (x.phys - ph) + (x.len - 1 + 1) = x.phys + x.len by omega, ih]
    simp only
    congr 3
    cases x with
    | mk a b c => simp only; congr 1 <;> omega
theorem sn_rd : ∀ (k : Nat) {lb ph : Int} {b : List Int} {l : List Rn} {r : List Int}, Bys b → rdS k lb ph b = some (l, r) → l.length = k ∧ b = snB lb ph l ++ r ∧ Bys r
  | 0, lb, ph, b, l, r, hb, h => by
    rw [rdS] at h
    injection h with h
    injection h with h1 h2
    subst h1 h2
    exact ⟨rfl, rfl, hb⟩
  | k + 1, lb, ph, b, l, r, hb, h => by
    rw [rdS] at h
    split at h
    · cases h
    · next d1 b1 e1 =>
      split at h
      · cases h
      · next n b2 e2 =>
        split at h
        · cases h
        · next d2 b3 e3 =>
          split at h
          · cases h
          · next l' r' e4 =>
            injection h with h
            injection h with h5 h6
            subst h5 h6
            obtain ⟨-, -, p1, q1⟩ := put_num hb e1
            obtain ⟨n0, -, p2, q2⟩ := put_num q1 e2
            obtain ⟨-, -, p3, q3⟩ := put_who q2 e3
            obtain ⟨i1, i2, i3⟩ := sn_rd k q3 e4
            refine ⟨by simp [i1], ?_, i3⟩
            rw [snB]
            simp only
            rw [show lb + d1 - lb = d1 by omega, show n + 1 - 1 = n by omega, show ph + d2 - ph = d2 by omega, p1, p2, p3, i2]
            simp only [List.append_assoc]
/-- The runs of which a snapshot tells these bytes. -/
theorem sn_iff {b : List Int} (hb : Bys b) {l : List Rn} (hl : FitL l) : snL l = b ↔ ∃ n b1, numL b = some (n, b1) ∧ n = (l.length : Int) ∧ rdS l.length 0 0 b1 = some (l, []) := by
  constructor
  · intro h
    refine ⟨(l.length : Int), snB 0 0 l, ?_, rfl, ?_⟩
    · rw [← h]
      unfold snL
      have := hl.1
      exact num_put (by omega) (by omega) _
    · have := rd_sn l hl.2.1 (lb := 0) (ph := 0) (fun x hx => ⟨by have := hl.2.1.1 x hx; unfold Rn.Ok at this; omega, hl.2.2 x hx⟩) (by omega) (by omega) (by omega) []
      rwa [List.append_nil] at this
  · rintro ⟨n, b1, h1, h2, h3⟩
    obtain ⟨-, -, e1, q1⟩ := put_num hb h1
    obtain ⟨-, e2, -⟩ := sn_rd _ q1 h3
    rw [List.append_nil] at e2
    unfold snL
    rw [e1, h2, e2]
/-- Runs that may be a snapshot may be a record. -/
theorem FitL.may {l : List Rn} (h : FitL l) : MayL l := ⟨h.1, fun x hx => by
  have h1 := h.2.1.1 x hx
  have h2 := h.2.2 x hx
  unfold Rn.Ok at h1
  unfold Rn.fin at h2
  unfold MayX
  omega⟩
/-- Runs as a snapshot are no longer than as a record. -/
theorem sn_short : ∀ (l : List Rn) {lb ph : Int}, Form l → (∀ x ∈ l, lb ≤ x.lba) → (snB lb ph l).length ≤ (recB lb ph l).length
  | [], _, _, _, _ => Nat.le_refl _
  | x :: l, lb, ph, hf, h => by
    obtain ⟨hx, hy, hm⟩ := Form.cons.1 hf
    unfold Rn.Ok at hx
    have hx2 := h x (by simp)
    have hp : phN ph x = x.phys + x.len := by unfold phN; rw [if_neg (by omega)]
    have ih := sn_short l (lb := x.lba + x.len) (ph := x.phys + x.len) hm (fun y hyl => by have := (hy y hyl).1; unfold Rn.fin at this; exact this)
    rw [snB, recB, hp]
    have a1 := Vi.vb_mono (x.lba - lb) (Vi.fold (x.lba - lb)) (by unfold Vi.fold; split <;> omega)
    have a2 := Vi.vb_mono (x.len - 1) x.len (by omega)
    have a3 := Vi.vb_mono (Vi.fold (x.phys - ph)) (Vi.fold (dOf ph x)) (by
      unfold dOf
      rw [if_neg (by omega)]
      split
      · exact Int.le_refl _
      · unfold Vi.fold; split <;> split <;> omega)
    simp only [List.length_append]
    omega
theorem short_all {l : List Rn} (h : FitL l) : (snL l).length ≤ (recL l).length := by
  unfold snL recL
  rw [List.length_append, List.length_append]
  have := sn_short l (lb := 0) (ph := 0) h.2.1 (fun x hx => by have := h.2.1.1 x hx; unfold Rn.Ok at this; omega)
  omega
/-- How long they are at most. -/
theorem rec_len : ∀ (l : List Rn) {lb ph : Int}, (∀ x ∈ l, MayX x) → 0 ≤ lb → lb ≤ 1024 → 0 ≤ ph → ph ≤ 1049088 → (recB lb ph l).length ≤ 8 * l.length
  | [], _, _, _, _, _, _, _ => Nat.zero_le _
  | x :: l, lb, ph, h, h1, h2, h3, h4 => by
    have hx : MayX x := h x (by simp)
    unfold MayX at hx
    have hph : 0 ≤ phN ph x ∧ phN ph x ≤ 1049088 := by unfold phN; split <;> omega
    have ih := rec_len l (lb := x.lba + x.len) (ph := phN ph x) (fun y hy => h y (by simp [hy])) (by omega) (by omega) hph.1 hph.2
    have a1 := Vi.vb_len 1 (Vi.fold (x.lba - lb)) (by unfold Vi.fold; split <;> omega)
    have a2 := Vi.vb_len 1 x.len (by omega)
    have a3 := Vi.vb_len 3 (Vi.fold (dOf ph x)) (by
      have hd : -1049088 ≤ dOf ph x ∧ dOf ph x ≤ 1048577 := by
        unfold dOf
        split
        · omega
        · split <;> omega
      unfold Vi.fold
      split <;> omega)
    rw [recB]
    simp only [List.length_append, List.length_cons]
    omega
end Tg
end Go.Proofs.Ytlekapfhbceibaa
