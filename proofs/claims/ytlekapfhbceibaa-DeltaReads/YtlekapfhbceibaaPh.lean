/-
  The program's own Changes, walked.
-/
import Derived.Test.YtlekapfhbceibaaPg
import Derived.Lib.Bytes
namespace Go.Proofs.Ytlekapfhbceibaa
open Go.ChangeShapes Go.WideShapes Go.ChangeAt Go.RowKit
namespace Tg
open Vi
theorem str_inj {a b : List Int} (ha : Bys a) (hb : Bys b) (h : strOfNums a = strOfNums b) : a = b := by
  have h1 : (strOfNums a).data.toList = (strOfNums b).data.toList := by rw [h]
  rw [strOfNums_data, strOfNums_data] at h1
  have key : ∀ (a b : List Int), Bys a → Bys b → (a.map fun n => UInt8.ofNat n.toNat) = (b.map fun n => UInt8.ofNat n.toNat) → a = b := by
    intro a
    induction a with
    | nil => intro b _ _ e; cases b with
      | nil => rfl
      | cons y b => simp at e
    | cons x a ih =>
      intro b ha hb e
      cases b with
      | nil => simp at e
      | cons y b =>
        simp only [List.map_cons, List.cons.injEq] at e
        have hx := ha x (by simp)
        have hy := hb y (by simp)
        have e1 := congrArg UInt8.toNat e.1
        simp only [UInt8.toNat_ofNat'] at e1
        rw [ih b (fun z hz => ha z (by simp [hz])) (fun z hz => hb z (by simp [hz])) e.2]
        have : x = y := by omega
        rw [this]
  exact key a b ha hb h1
theorem str_beq {a b : List Int} (ha : Bys a) (hb : Bys b) : ((strOfNums a).toList == (strOfNums b).toList) = decide (a = b) := by
  by_cases h : a = b
  · subst h; simp
  · rw [decide_eq_false h, beq_eq_false_iff_ne]
    intro e
    refine h (str_inj ha hb ?_)
    rw [Go.Lib.strOfNums_toList, Go.Lib.strOfNums_toList] at e
    apply ByteArray.ext
    apply Array.toList_inj.1
    rw [strOfNums_data, strOfNums_data]
    exact e
set_option maxHeartbeats 600000 in
/-- Changes. -/
theorem changes_ok : ChangesOk := by
  intro w a len cap b hr hlen
  have hb : Bys b := hr.2.2.2.1
  have hro := readops_any hr
  cases hd : decL b with
  | none =>
    have hno : ∀ l, MayL l → recL l = b → False := fun l hl e => by
      have := (decL_iff hb).2 ⟨hl, e⟩
      rw [hd] at this
      cases this
    simp only
    clear hd
    have hno' : Hid (∀ l, MayL l → recL l = b → False) := hno
    clear hno
    go_enter Try.func10, Try.ntmps10
    go_wp2_with fail
    refine hro.mono ?_
    rintro e w1 ⟨a1, c1, m, ok, rfl, Q1, hF, hK⟩
    clear hK hro
    cases ok with
    | false =>
      go_wp2_with fail
      go_ret2
      exact ⟨⟨_, _, rfl⟩, Q1.keep⟩
    | true =>
      have hrec := record_ok Q1.rs.rz hF
      cases hm : mayB m with
      | false =>
        rw [hm] at hrec
        simp only [Bool.false_eq_true, ↓reduceIte] at hrec
        go_wp2_with fail
        refine hrec.mono ?_
        rintro e w2 ⟨⟨a2, c2, rfl⟩, k2⟩
        go_wp2_with fail
        go_ret2
        exact ⟨⟨_, _, rfl⟩, Q1.keep.trans k2⟩
      | true =>
        rw [hm] at hrec
        simp only [↓reduceIte] at hrec
        have hml := mayB_iff.1 hm
        have hne : recL m ≠ b := fun e => (show ∀ l, MayL l → recL l = b → False from hno') m hml e
        have hbm := bys_recL hml
        have hbe := str_beq hbm hb
        rw [decide_eq_false hne] at hbe
        clear hm hml hno' hne
        go_wp2_with fail
        refine hrec.mono ?_
        rintro e w2 ⟨⟨a2, c2, rfl, hrow⟩, k2⟩
        have heq := equal_any hrow (hr.moreV (Q1.keep.trans k2))
        rw [hbe] at heq
        go_wp2_with fail
        refine heq.mono ?_
        rintro e w3 ⟨rfl, e3⟩
        subst e3
        go_wp2_with fail
        go_ret2
        exact ⟨⟨_, _, rfl⟩, Q1.keep.trans k2⟩
  | some l =>
    obtain ⟨hl, he⟩ := (decL_iff hb).1 hd
    simp only
    clear hd
    have hmb : mayB l = true := mayB_iff.2 hl
    have hbe := str_beq (bys_recL hl) hb
    rw [decide_eq_true he] at hbe
    have hl' : Hid (MayL l) := hl
    have he' : Hid (recL l = b) := he
    clear hl he
    go_enter Try.func10, Try.ntmps10
    go_wp2_with fail
    refine hro.mono ?_
    rintro e w1 ⟨a1, c1, m, ok, rfl, Q1, hF, hK⟩
    obtain ⟨rfl, rfl⟩ := (show ∀ l, MayL l → recL l = b → ok = true ∧ m = l from hK) l hl' he'
    clear hK hro
    have hrec := record_ok Q1.rs.rz hF
    rw [hmb] at hrec
    simp only [↓reduceIte] at hrec
    clear hmb
    go_wp2_with fail
    refine hrec.mono ?_
    rintro e w2 ⟨⟨a2, c2, rfl, hrow⟩, k2⟩
    have heq := equal_any hrow (hr.moreV (Q1.keep.trans k2))
    rw [hbe] at heq
    go_wp2_with fail
    refine heq.mono ?_
    rintro e w3 ⟨rfl, e3⟩
    subst e3
    go_wp2_with fail
    go_ret2
    exact ⟨⟨_, _, rfl, (Q1.more k2).rs.rz⟩, Q1.keep.trans k2⟩
end Tg
end Go.Proofs.Ytlekapfhbceibaa
