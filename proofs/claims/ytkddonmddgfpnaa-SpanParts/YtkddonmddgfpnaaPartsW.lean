/-
  The statement of changes in two parts, walked: it returns true, and whatever was in memory is as it was.
-/
import Derived.Test.YtkddonmddgfpnaaAwS
import Derived.Test.YtkddonmddgfpnaaOpen
namespace Go.Proofs.Ytkddonmddgfpnaa
open Go.ChangeShapes Go.WideShapes Go.ChangeAt Go.RowKit
namespace Tg

theorem sameL_refl' (m : List Rn) : sameL m m = true := sameL_iff.2 rfl
/-- The head of a row. -/
theorem Rz.take {w : World} {a : Option Addr} {cap : Nat} {l : List Rn} (h : Rz w a cap l) (n : Nat) : Rz w a cap (l.take n) := by
  refine ⟨by have := h.1; rw [List.length_take]; omega, h.2.1, ?_⟩
  rcases h.2.2 with e | ⟨g, o, e, hc⟩
  · exact Or.inl (by rw [e]; simp)
  · refine Or.inr ⟨g, o, e, fun i x hx => hc i x ?_⟩
    rw [List.getElem?_take] at hx
    split at hx
    · exact hx
    · cases hx
/-- The rest of a row. -/
theorem Rz.drop {w : World} {g o cap : Nat} {l : List Rn} (h : Rz w (some ⟨g, o, none⟩) cap l) (n : Nat) (hn : n ≤ l.length) : Rz w (some ⟨g, o + n * 3, none⟩) (cap - n) (l.drop n) := by
  refine ⟨by have := h.1; rw [List.length_drop]; omega, by have := h.2.1; omega, ?_⟩
  rcases h.2.2 with e | ⟨g', o', e, hc⟩
  · exact Or.inl (by rw [e]; simp)
  · injection e with e; injection e with e1 e2; subst e1; subst e2
    refine Or.inr ⟨g, o + n * 3, rfl, fun i x hx => ?_⟩
    rw [List.getElem?_drop] at hx
    have := hc (n + i) x hx
    rw [show o + n * 3 + i * 3 = o + (n + i) * 3 by omega]
    exact this
theorem Fits.take {l : List Rn} (h : Fits l) (n : Nat) : Fits (l.take n) := fun x hx => h x (List.mem_of_mem_take hx)
theorem Fits.drop {l : List Rn} (h : Fits l) (n : Nat) : Fits (l.drop n) := fun x hx => h x (List.mem_of_mem_drop hx)
theorem nil_runs (C : Nat) : refR (List.replicate C (-1)) C = [] := by
  have := (of_nil C).runs
  rw [List.length_replicate] at this
  exact this.symm

set_option maxRecDepth 100000 in
set_option maxHeartbeats 4000000 in
theorem partsW {W : World} {cap cut : Int} {ao : Option Addr} {co : Nat} {l : List Rn} (ho : Rz W ao co l) (hfo : Fits l) (fl : Bool) :
    Calls Try.prog 7 #[.int .i64 cap, .slice ao l.length co, .int .i64 cut, .bool fl] W fun e w' => e = .returned (.bool true) ∧ Keep (fun _ => False) W w' := by
  have haw := awake_any W
  have hoc := ho.1
  have hoc2 := ho.2.1
  by_cases h1 : cap < 1
  · clear ho hfo
    go_enter Try.func7, Try.ntmps7
    go_wp2_with (go_at_call 9; refine haw.mono ?_; rintro e w1 ⟨rfl, k1⟩)
    go_ret
    exact ⟨rfl, k1⟩
  by_cases h2 : 64 < cap
  · clear ho hfo
    go_enter Try.func7, Try.ntmps7
    go_wp2_with (go_at_call 9; refine haw.mono ?_; rintro e w1 ⟨rfl, k1⟩)
    go_ret
    exact ⟨rfl, k1⟩
  by_cases h3 : (20 : Int) < (l.length : Int)
  · clear ho hfo
    go_enter Try.func7, Try.ntmps7
    go_wp2_with (go_at_call 9; refine haw.mono ?_; rintro e w1 ⟨rfl, k1⟩)
    go_ret
    exact ⟨rfl, k1⟩
  by_cases h4 : cut < 0
  · clear ho hfo
    go_enter Try.func7, Try.ntmps7
    go_wp2_with (go_at_call 9; refine haw.mono ?_; rintro e w1 ⟨rfl, k1⟩)
    go_ret
    exact ⟨rfl, k1⟩
  by_cases h5 : (l.length : Int) < cut
  · clear ho hfo
    go_enter Try.func7, Try.ntmps7
    go_wp2_with (go_at_call 9; refine haw.mono ?_; rintro e w1 ⟨rfl, k1⟩)
    go_ret
    exact ⟨rfl, k1⟩
  obtain ⟨C, rfl⟩ : ∃ C : Nat, cap = (C : Int) := ⟨cap.toNat, by omega⟩
  obtain ⟨n, rfl⟩ : ∃ n : Nat, cut = (n : Int) := ⟨cut.toNat, by omega⟩
  have n1 := fun w => newS fl (w := w) (C := C) (N := 512) (by omega) (by omega) (by omega) (by omega)
  rw [show ((512 : Nat) : Int) = 512 from rfl] at n1
  go_enter Try.func7, Try.ntmps7
  go_upto_region 5 with (go_at_call 9; refine haw.mono ?_; rintro e w1 ⟨rfl, k1⟩)
  go_wp2_with fail
  refine (n1 _).mono ?_
  rintro e w2 ⟨qa, Sa, rfl, M2⟩
  go_wp2_with fail
  refine (n1 _).mono ?_
  rintro e w3 ⟨qb, Sb, rfl, M3⟩
  have D3 := Two.new (M2.older k1) M3
  clear n1 haw k1 M2 M3
  have hnil := nil_runs C
  have hal : allL 512 [] (List.replicate C (-1)) = List.replicate C (-1) := rfl
  generalize List.replicate C (-1 : Int) = t0 at D3 hnil hal
  by_cases hne : l = []
  · subst hne
    have en : n = 0 := by simp at h5; omega
    subst en
    have hr0 : runL 512 [] t0 = (t0, 0) := rfl
    have cA := fun (w1 : World) (D : Two W w1 fl qa Sa 512 C t0 fl qb Sb 512 C t0) (a' : Option Addr) (c' : Nat) (hc : c' ≤ 9223372036854775807) => apply_any D.a (a := a') (cap := c') (l := []) ⟨by simp, hc, Or.inl rfl⟩ (fun x hx => by cases hx) (fun _ _ _ h => absurd rfl h)
    have cB := fun (w1 : World) (D : Two W w1 fl qa Sa 512 C t0 fl qb Sb 512 C t0) (a' : Option Addr) (c' : Nat) (hc : c' ≤ 9223372036854775807) => apply_any D.b (a := a') (cap := c') (l := []) ⟨by simp, hc, Or.inl rfl⟩ (fun x hx => by cases hx) (fun _ _ _ h => absurd rfl h)
    unfold Apd at cA cB
    rw [hal, hr0, show ([] : List Rn).length = 0 from rfl] at cA cB
    clear ho hfo hoc h5
    cases ao with
    | none =>
      go_wp2_with fail
      refine (cA w3 D3 _ _ (by omega)).mono ?_
      rintro e w4 ⟨rfl, A4, k4⟩
      have D4 := D3.setA A4 k4
      clear D3 A4 k4
      go_wp2_with fail
      refine (cA w4 D4 _ _ (by omega)).mono ?_
      rintro e w5 ⟨rfl, A5, k5⟩
      have D5 := D4.setA A5 k5
      clear D4 A5 k5
      go_wp2_with fail
      refine (cB w5 D5 _ _ (by omega)).mono ?_
      rintro e w6 ⟨rfl, B6, k6⟩
      have D6 := D5.setB B6 k6
      clear D5 B6 k6 cA cB
      have c9 := sameS D6.a D6.b
      rw [sameL_refl', show decide (C = C) = true from decide_eq_true rfl] at c9
      rw [show (true && true) = true from rfl] at c9
      have HW := D6.a.keep
      clear D6
      go_wp2_with fail
      refine c9.mono ?_
      rintro e w9 ⟨rfl, k9⟩
      have HK := HW.trans k9
      clear c9
      go_wp2_with fail
      go_ret
      exact ⟨rfl, HK⟩
    | some ad =>
      go_wp2_with fail
      refine (cA w3 D3 _ _ (by omega)).mono ?_
      rintro e w4 ⟨rfl, A4, k4⟩
      have D4 := D3.setA A4 k4
      clear D3 A4 k4
      go_wp2_with fail
      refine (cA w4 D4 _ _ (by omega)).mono ?_
      rintro e w5 ⟨rfl, A5, k5⟩
      have D5 := D4.setA A5 k5
      clear D4 A5 k5
      go_wp2_with fail
      refine (cB w5 D5 _ _ (by omega)).mono ?_
      rintro e w6 ⟨rfl, B6, k6⟩
      have D6 := D5.setB B6 k6
      clear D5 B6 k6 cA cB
      have c9 := sameS D6.a D6.b
      rw [sameL_refl', show decide (C = C) = true from decide_eq_true rfl] at c9
      rw [show (true && true) = true from rfl] at c9
      have HW := D6.a.keep
      clear D6
      go_wp2_with fail
      refine c9.mono ?_
      rintro e w9 ⟨rfl, k9⟩
      have HK := HW.trans k9
      clear c9
      go_wp2_with fail
      go_ret
      exact ⟨rfl, HK⟩
  obtain ⟨g, o, rfl, -⟩ := ho.2.2.resolve_left hne
  have hg : g < W.heap.size := ho.block hne
  have hlt1 : (l.take n).length = n := by rw [List.length_take]; omega
  have hld : (l.drop n).length = l.length - n := List.length_drop
  have hsplit : runL 512 l t0 = if (runL 512 (l.take n) t0).2 = 0 then runL 512 (l.drop n) (runL 512 (l.take n) t0).1 else runL 512 (l.take n) t0 := by
    rw [← runL_app, List.take_append_drop]
  have c3 := apply_any D3.a ((ho.more D3.a.keep).take n) (hfo.take n) (fun g' o' e _ hs => by
    injection e with e; injection e with e1 e2; subst e1
    have := (D3.a.sw _ hs).1; omega)
  rw [hlt1] at c3
  unfold Apd at c3
  by_cases hx0 : (runL 512 (l.take n) t0).2 = 0
  · rw [if_pos hx0] at hsplit
    have ha1 : allL 512 (l.take n) t0 = (runL 512 (l.take n) t0).1 := by unfold allL; rw [if_pos hx0]
    rw [ha1, hx0] at c3
    generalize (runL 512 (l.take n) t0).1 = t1 at c3 hsplit
    clear ha1 hx0
    go_wp2_with fail
    refine c3.mono ?_
    rintro e w4 ⟨rfl, A4, k4⟩
    have D4 := D3.setA A4 k4
    clear c3 D3 A4 k4
    have Rd : ∃ ad, (if co = n then some ⟨g, o, none⟩ else some ⟨g, o + n * 3, none⟩ : Option Addr) = some ad ∧ ad.block = g ∧ Rz w4 (some ad) (co - n) (l.drop n) := by
      by_cases hcn : co = n
      · rw [if_pos hcn]
        refine ⟨_, rfl, rfl, by rw [hld]; omega, by omega, Or.inl ?_⟩
        exact List.drop_of_length_le (by omega)
      · rw [if_neg hcn]
        exact ⟨_, rfl, rfl, (ho.more D4.a.keep).drop n (by omega)⟩
    obtain ⟨ad, had, hab, Rd⟩ := Rd
    have c4 := apply_any D4.a Rd (hfo.drop n) (fun g' o' e _ hs => by
      injection e with e
      rw [e] at hab
      simp only at hab
      subst hab
      have := (D4.a.sw _ hs).1; omega)
    rw [hld] at c4
    unfold Apd at c4
    have dn : ((l.length : Int) - n).toNat = l.length - n := by omega
    have dn2 : ((co : Int) - n).toNat = co - n := by omega
    have dn3 : (n : Int) ≤ (l.length : Int) := by omega
    have hone : ∀ v : Value, True := fun _ => trivial
    by_cases hy0 : (runL 512 (l.drop n) t1).2 = 0
    · have ha2 : allL 512 (l.drop n) t1 = (runL 512 (l.drop n) t1).1 := by unfold allL; rw [if_pos hy0]
      have ha3 : allL 512 l t0 = (runL 512 (l.drop n) t1).1 := by unfold allL; rw [hsplit, if_pos hy0]
      rw [ha2, hy0] at c4
      have hz0 : (runL 512 l t0).2 = 0 := by rw [hsplit]; exact hy0
      generalize (runL 512 (l.drop n) t1).1 = t2 at c4 ha3
      clear ha2 hsplit hy0 hone
      go_wp2_with fail
      refine c4.mono ?_
      rintro e w5 ⟨rfl, A5, k5⟩
      have D5 := D4.setA A5 k5
      clear c4 D4 A5 k5 had Rd
      have c5 := apply_any D5.b (ho.more D5.a.keep) hfo (fun g' o' e _ hs => by
        injection e with e; injection e with e1 e2; subst e1
        have := (D5.b.sw _ hs).1; omega)
      unfold Apd at c5
      rw [ha3, hz0] at c5
      clear ha3 hz0
      go_wp2_with fail
      refine c5.mono ?_
      rintro e w6 ⟨rfl, B6, k6⟩
      have D6 := D5.setB B6 k6
      clear c5 D5 B6 k6
      have c9 := sameS D6.a D6.b
      rw [sameL_refl', show decide (C = C) = true from decide_eq_true rfl] at c9
      rw [show (true && true) = true from rfl] at c9
      have HW := D6.a.keep
      clear D6
      go_wp2_with fail
      refine c9.mono ?_
      rintro e w9 ⟨rfl, k9⟩
      have HK := HW.trans k9
      clear c9
      go_wp2_with fail
      go_ret
      exact ⟨rfl, HK⟩
    · have ha2 : allL 512 (l.drop n) t1 = t1 := by unfold allL; rw [if_neg hy0]
      have ha3 : allL 512 l t0 = t0 := by unfold allL; rw [hsplit, if_neg hy0]
      have hz0 : (runL 512 l t0).2 = (runL 512 (l.drop n) t1).2 := by rw [hsplit]
      rw [ha2] at c4
      have hyb : ((runL 512 (l.drop n) t1).2 == 0) = false := by simp [hy0]
      generalize (runL 512 (l.drop n) t1).2 = r at c4 hz0 hyb
      have hrr : (r == r) = true := by simp
      clear ha2 hsplit hy0 hone
      go_wp2_with fail
      refine c4.mono ?_
      rintro e w5 ⟨rfl, A5, k5⟩
      have D5 := D4.setA A5 k5
      clear c4 D4 A5 k5 had Rd
      have c5 := apply_any D5.b (ho.more D5.a.keep) hfo (fun g' o' e _ hs => by
        injection e with e; injection e with e1 e2; subst e1
        have := (D5.b.sw _ hs).1; omega)
      unfold Apd at c5
      rw [ha3, hz0] at c5
      clear ha3 hz0
      go_wp2_with fail
      refine c5.mono ?_
      rintro e w6 ⟨rfl, B6, k6⟩
      have D6 := D5.setB B6 k6
      clear c5 D5 B6 k6
      cases fl with
      | false =>
        have r7 := D6.b.runs
        rw [hnil, show ([] : List Rn).length = 0 from rfl] at r7
        unfold fRuns at r7
        unfold mapV
        have m7 := mRuns44 qb
        have HW := D6.a.keep
        clear D6
        go_wp2_with fail
        refine r7.mono ?_
        rintro e w7 ⟨a7, d7, rfl, R7, k7, -⟩
        have HK := HW.trans k7
        clear r7 R7
        go_wp2_with fail
        go_ret
        exact ⟨rfl, HK⟩
      | true =>
        have r7 := D6.b.runs
        rw [hnil, show ([] : List Rn).length = 0 from rfl] at r7
        unfold fRuns at r7
        unfold mapV
        have m7 := mRuns47 qb
        have HW := D6.a.keep
        clear D6
        go_wp2_with fail
        refine r7.mono ?_
        rintro e w7 ⟨a7, d7, rfl, R7, k7, -⟩
        have HK := HW.trans k7
        clear r7 R7
        go_wp2_with fail
        go_ret
        exact ⟨rfl, HK⟩
  · rw [if_neg hx0] at hsplit
    have ha1 : allL 512 (l.take n) t0 = t0 := by unfold allL; rw [if_neg hx0]
    have ha3 : allL 512 l t0 = t0 := by unfold allL; rw [hsplit, if_neg hx0]
    have hz0 : (runL 512 l t0).2 = (runL 512 (l.take n) t0).2 := by rw [hsplit]
    rw [ha1] at c3
    have hxb : ((runL 512 (l.take n) t0).2 == 0) = false := by simp [hx0]
    generalize (runL 512 (l.take n) t0).2 = r at c3 hz0 hxb
    have hrr : (r == r) = true := by simp
    clear ha1 hx0 hsplit
    go_wp2_with fail
    refine c3.mono ?_
    rintro e w5 ⟨rfl, A5, k5⟩
    have D5 := D3.setA A5 k5
    clear c3 D3 A5 k5
    have c5 := apply_any D5.b (ho.more D5.a.keep) hfo (fun g' o' e _ hs => by
      injection e with e; injection e with e1 e2; subst e1
      have := (D5.b.sw _ hs).1; omega)
    unfold Apd at c5
    rw [ha3, hz0] at c5
    clear ha3 hz0
    go_wp2_with fail
    refine c5.mono ?_
    rintro e w6 ⟨rfl, B6, k6⟩
    have D6 := D5.setB B6 k6
    clear c5 D5 B6 k6
    cases fl with
    | false =>
      have r7 := D6.b.runs
      have r8 := fun w1 (k : Keep (fun _ => False) w6 w1) => (D6.a.more k).runs
      rw [hnil, show ([] : List Rn).length = 0 from rfl] at r7 r8
      unfold fRuns at r7 r8
      unfold mapV
      have m7 := mRuns44 qb
      have m8 := mRuns44 qa
      have HW := D6.a.keep
      clear D6
      go_wp2_with fail
      refine r7.mono ?_
      rintro e w7 ⟨a7, d7, rfl, R7, k7, -⟩
      have r8' := r8 w7 k7
      clear r7 r8 R7
      go_wp2_with fail
      refine r8'.mono ?_
      rintro e w8 ⟨a8, d8, rfl, R8, k8, -⟩
      have HK := HW.trans (k7.trans k8)
      clear r8' R8
      go_wp2_with fail
      go_ret
      exact ⟨rfl, HK⟩
    | true =>
      have r7 := D6.b.runs
      have r8 := fun w1 (k : Keep (fun _ => False) w6 w1) => (D6.a.more k).runs
      rw [hnil, show ([] : List Rn).length = 0 from rfl] at r7 r8
      unfold fRuns at r7 r8
      unfold mapV
      have m7 := mRuns47 qb
      have m8 := mRuns47 qa
      have HW := D6.a.keep
      clear D6
      go_wp2_with fail
      refine r7.mono ?_
      rintro e w7 ⟨a7, d7, rfl, R7, k7, -⟩
      have r8' := r8 w7 k7
      clear r7 r8 R7
      go_wp2_with fail
      refine r8'.mono ?_
      rintro e w8 ⟨a8, d8, rfl, R8, k8, -⟩
      have HK := HW.trans (k7.trans k8)
      clear r8' R8
      go_wp2_with fail
      go_ret
      exact ⟨rfl, HK⟩
theorem parts_walk {W : World} (cap : Int) {ao : Option Addr} {no co : Nat} (ho : Rows3 W ao no co) (cut : Int) (fl : Bool) :
    Calls Try.prog 7 #[.int .i64 cap, .slice ao no co, .int .i64 cut, .bool fl] W fun e w' => e = .returned (.bool true) ∧ Below W.heap.size W w' := by
  obtain ⟨l, rfl, h1, h2⟩ := ho
  exact (partsW h1 h2 fl).mono fun _ _ ⟨h1, h2⟩ => ⟨h1, h2.below (Nat.le_refl _) (fun _ e => e.elim)⟩
end Tg
end Go.Proofs.Ytkddonmddgfpnaa
