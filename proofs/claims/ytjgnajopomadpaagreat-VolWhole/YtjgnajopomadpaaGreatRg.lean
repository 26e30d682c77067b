/-
  A call of the law on the places is the document's own on the sectors (mathematics).
-/
import Derived.Test.YtjgnajopomadpaaGreatRf
namespace Go.Proofs.YtjgnajopomadpaaGreat
open Go.ChangeShapes Go.WideShapes Go.ChangeAt Go.RowKit
namespace Tg
open Qm Crc
section
variable {N : Nat} {l : List Int} {s : Nat → Option En}
theorem Dp.has (h : Dp N l s) {nm : ByteArray} {x : En} (hv : volOf (lst s) nm = some x) : ∃ i, i < 8 ∧ s i = some x ∧ x.i = i ∧ x.Ok N ∧ strOfNums x.nm = nm := by
  obtain ⟨i, hi, hx, hn⟩ := h.sp.yes.1 hv
  have := h.sp.ok i x hi hx
  exact ⟨i, hi, hx, this.2.2, this.1, hn⟩
theorem create_own (h : Dp N l s) (nm : ByteArray) (n : Int) : createL N l nm n = ((createS N l s nm n).l, (createS N l s nm n).e) := by
  unfold createL createS
  rw [h.vol]
  split
  · rfl
  · split
    · rfl
    · cases roomL N (lst s) n.toNat with
      | none => rfl
      | some z => rfl
theorem create_dp (h : Dp N l s) (nm : ByteArray) (n : Int) : Dp N (createS N l s nm n).l (createS N l s nm n).s := by
  unfold createS
  split
  · exact h
  · next hg =>
    split
    · exact h
    · next hv =>
      have h1 : 1 ≤ n.toNat := by omega
      have hno : volOf (lst s) nm = none := by
        cases hq : volOf (lst s) nm with
        | none => rfl
        | some x => rw [hq] at hv; exact absurd rfl hv
      rcases h.sp.room h1 with ⟨hr, -⟩ | ⟨a, j, hr, hj, hs, -, hf, -⟩
      · rw [hr]; exact h
      · rw [hr]
        have hgg : goodS (bs nm) = true := by
          cases hq : goodS (bs nm) with
          | true => rfl
          | false => exact absurd (Or.inl hq) hg
        have := h.add hgg hno h1 hj hf [] b8_nil
        rw [show ((n.toNat : Nat) : Int) = n by omega] at this
        exact this
theorem delete_own (h : Dp N l s) (nm : ByteArray) : deleteL N l nm = ((deleteS l s nm).l, (deleteS l s nm).e) := by
  unfold deleteL deleteS
  rw [h.vol]
  cases volOf (lst s) nm with
  | none => rfl
  | some x => rfl
theorem delete_dp (h : Dp N l s) (nm : ByteArray) : Dp N (deleteS l s nm).l (deleteS l s nm).s := by
  unfold deleteS
  cases hv : volOf (lst s) nm with
  | none => exact h
  | some x =>
    obtain ⟨i, hi, hx, hxi, -⟩ := h.has hv
    have := h.del hi
    rw [show i = x.i.toNat by omega] at this
    exact this
theorem rename_own (h : Dp N l s) (nm nt : ByteArray) : renameL N l nm nt = ((renameS l s nm nt).l, (renameS l s nm nt).e) := by
  unfold renameL renameS
  rw [h.vol]
  cases volOf (lst s) nm with
  | none => rfl
  | some x =>
    show (if _ then _ else if _ then _ else _) = ((if _ then _ else if _ then _ else _ : Rs).l, (if _ then _ else if _ then _ else _ : Rs).e)
    split
    · rfl
    · split <;> rfl
theorem rename_dp (h : Dp N l s) (nm nt : ByteArray) : Dp N (renameS l s nm nt).l (renameS l s nm nt).s := by
  unfold renameS
  cases hv : volOf (lst s) nm with
  | none => exact h
  | some x =>
    show Dp N (if _ then _ else if _ then _ else _ : Rs).l (if _ then _ else if _ then _ else _ : Rs).s
    split
    · exact h
    · next hg =>
      split
      · exact h
      · next hv2 =>
        have hno : volOf (lst s) nt = none := by
          cases hq : volOf (lst s) nt with
          | none => rfl
          | some x => rw [hq] at hv2; exact absurd rfl hv2
        obtain ⟨i, hi, hx, hxi, -⟩ := h.has hv
        have := h.ren hi hx (nm := nt) (by simpa using hg) hno
        rw [← hxi, show i = x.i.toNat by omega] at this
        exact this
theorem clone_own (h : Dp N l s) (nm nt : ByteArray) : cloneL N l nm nt = ((cloneS N l s nm nt).l, (cloneS N l s nm nt).e) := by
  unfold cloneL cloneS
  rw [h.vol]
  cases volOf (lst s) nm with
  | none => rfl
  | some x =>
    simp only []
    split
    · rfl
    · split
      · rfl
      · cases roomL N (lst s) x.n.toNat with
        | none => rfl
        | some z => rfl
theorem clone_dp (h : Dp N l s) (nm nt : ByteArray) : Dp N (cloneS N l s nm nt).l (cloneS N l s nm nt).s := by
  unfold cloneS
  cases hv : volOf (lst s) nm with
  | none => exact h
  | some x =>
    simp only []
    split
    · exact h
    · next hg =>
      split
      · exact h
      · next hv2 =>
        have hno : volOf (lst s) nt = none := by
          cases hq : volOf (lst s) nt with
          | none => rfl
          | some x => rw [hq] at hv2; exact absurd rfl hv2
        obtain ⟨i, hi, hx, hxi, hok, -⟩ := h.has hv
        have h1 : 1 ≤ x.n.toNat := by have := hok.n; omega
        rcases h.sp.room h1 with ⟨hr, -⟩ | ⟨a, j, hr, hj, hs, -, hf, -⟩
        · rw [hr]; exact h
        · rw [hr]
          have := h.add (nm := nt) (by simpa using hg) hno h1 hj hf (rdL l x.f.toNat x.n.toNat) (rdL_b8 h.b8)
          rw [show ((x.n.toNat : Nat) : Int) = x.n by have := hok.n; omega] at this
          exact this
theorem place_own (h : Dp N l s) (nm : ByteArray) (p n : Int) : placeL N l nm p n = placeS s nm p n := by
  unfold placeL placeS
  rw [h.vol]
  cases volOf (lst s) nm <;> rfl
theorem write_dp (h : Dp N l s) (nm : ByteArray) (p n : Int) (d : ByteArray) : Dp N (writeS l s nm p n d).l (writeS l s nm p n d).s := by
  unfold writeS
  rcases place_or h.sp nm p n with ⟨h1, -⟩ | ⟨i, a, k, x, h1, h2, h3, h4, h5, h6, -⟩
  · rw [if_neg h1]; exact h
  · rw [if_pos h1, h2, h3]
    exact h.wr h5 h6 (nums_b8 d)
theorem step_own (h : Dp N l s) (x : Ac) : ownL N l x = ((stepS N l s x).1.l, (stepS N l s x).2, (stepS N l s x).1.e) ∧ Dp N (stepS N l s x).1.l (stepS N l s x).1.s := by
  unfold ownL stepS
  split
  · rw [create_own h]; exact ⟨rfl, create_dp h _ _⟩
  · split
    · rw [delete_own h]; exact ⟨rfl, delete_dp h _⟩
    · split
      · rw [rename_own h]; exact ⟨rfl, rename_dp h _ _⟩
      · split
        · rw [clone_own h]; exact ⟨rfl, clone_dp h _ _⟩
        · split
          · refine ⟨?_, write_dp h _ _ _ _⟩
            rw [place_own h]
            unfold writeS
            split <;> rfl
          · split
            · refine ⟨?_, h⟩
              rw [place_own h]
              unfold readS
              split <;> rfl
            · exact ⟨rfl, h⟩
end
end Tg
end Go.Proofs.YtjgnajopomadpaaGreat
