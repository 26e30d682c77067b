/-
  ScriptJoins, over any memory.
-/
import Derived.Test.YtgilagmgepogbaaDoorLa
set_option linter.unusedVariables false
namespace Go.Proofs.YtgilagmgepogbaaDoor
open Go.ChangeShapes Go.WideShapes Go.ChangeAt Go.RowKit
namespace Tg
open Qm Km

theorem parse_fit (s : ByteArray) : (∀ c ∈ (parse (bs s)).1, Cm.Fit c) ∧ (parse (bs s)).1.length ≤ 1000 := by
  have := parse_ok (t := bs s) (bs_byte s)
  exact ⟨fun c hc => fit_of_ok (this.1 c hc).1 (by have := (this.1 c hc).2; omega), this.2⟩
theorem body_four (l : List Nat) : (body l).length ≤ 4 * l.length := by
  refine list_ind (P := fun l => (body l).length ≤ 4 * l.length) (by rw [body_nil]; simp) (fun l hne ih => ?_) l
  rw [body_cons hne, List.length_append]
  have h1 := piece_len (l := l); have h2 := piece_pos hne
  rw [List.length_drop] at ih
  omega
theorem txt_len {c : Cm} (ha : I64 c.a) (hb : I64 c.b) : (txt c).length ≤ 4 * c.d.length + 60 := by
  have h1 := nt_len ha.1 ha.2; have h2 := nt_len hb.1 hb.2
  have h3 : (told c.d).length ≤ 4 * c.d.length + 2 := by rw [told_len]; have := body_four c.d; omega
  unfold txt
  repeat' split
  all_goals simp [sRead, sWrite, sTrim, sCut, sFail, sMount, sShow, sStat]
  all_goals omega
theorem prt_len (B : Nat) : ∀ (L : List Cm), (∀ c ∈ L, Cm.Fit c ∧ c.d.length ≤ B) → (prt L).length ≤ L.length * (4 * B + 61)
  | [], _ => by simp [prt]
  | c :: L, h => by
    have h1 := h c (List.mem_cons_self ..)
    have h2 := txt_len h1.1.a h1.1.b
    have ih := prt_len B L (fun x hx => h x (List.mem_cons_of_mem _ hx))
    have e : prt (c :: L) = txt c ++ [10] ++ prt L := by simp [prt]
    have e2 : (c :: L).length * (4 * B + 61) = L.length * (4 * B + 61) + (4 * B + 61) := by rw [List.length_cons, Nat.add_mul, Nat.one_mul]
    have e3 : ([10] : List Nat).length = 1 := rfl
    rw [e, List.length_append, List.length_append, e2, e3]
    have := h1.2
    omega
/-- What is read of a text is told in no more than some bytes. -/
theorem parse_prt (s : ByteArray) : (prt (parse (bs s)).1).length ≤ 100000000 := by
  have h := parse_ok (t := bs s) (bs_byte s)
  have h1 := prt_len 16384 (parse (bs s)).1 (fun c hc => ⟨(parse_fit s).1 c hc, (h.1 c hc).2⟩)
  have h2 : (parse (bs s)).1.length * (4 * 16384 + 61) ≤ 1000 * (4 * 16384 + 61) := Nat.mul_le_mul_right _ h.2
  omega
theorem bs_append (a b : ByteArray) : bs (a ++ b) = bs a ++ bs b := by
  unfold bs
  rw [ByteArray.data_append, Array.toList_append, List.map_append]
/-- Print of what was read of a text. -/
theorem print_of (s : ByteArray) (a : Option Addr) (cap : Nat) (w : World) (hG : Gt w) (hR : Rd w a (cvs (parse (bs s)).1)) :
    Calls Tryd.prog 10 #[.slice a (parse (bs s)).1.length cap] w fun e w' => e = .returned (.string (str (prt (parse (bs s)).1))) ∧ Keep (fun _ => False) w w' :=
  print_any _ (parse_fit s).1 (parse_prt s) (by have := (parse_fit s).2; omega) a cap w hG hR
theorem par_bound (s : ByteArray) : (parse (bs s)).2.1 ≤ 1000 ∧ (parse (bs s)).2.2 ≤ 3 := by
  unfold parse
  split
  · simp
  · rename_i h
    rcases par_err (lin [] (bs s)) 0 [] with ⟨h1, h2⟩ | ⟨h1, _, _, h3⟩
    · omega
    · omega
theorem prt_app (L M : List Cm) : prt (L ++ M) = prt L ++ prt M := by simp [prt]

set_option maxHeartbeats 4000000 in
set_option maxRecDepth 100000 in
/-- ScriptJoins. -/
theorem joins_law (a b : ByteArray) (w : World) (hG : Gt w) : Calls Tryd.prog 7 #[.string a, .string b] w fun e w' => e = .returned (.bool true) ∧ Keep (fun _ => False) w w' := by
  have ha := awake_any w hG
  have HG : Hid (Gt w) := hG
  clear hG
  by_cases h1 : 7000 < a.size
  · have i1 : (7000 : Int) < a.size := by omega
    clear h1
    go_enter Tryd.func7, Tryd.ntmps7
    go_wp2_with fail
    refine ha.mono ?_
    rintro e w1 ⟨rfl, k1⟩
    go_wp2_with fail
    go_ret
    exact ⟨rfl, k1⟩
  have i1 : ¬ (7000 : Int) < a.size := by omega
  by_cases h2 : 7000 < b.size
  · have i2 : (7000 : Int) < b.size := by omega
    clear h1 h2
    go_enter Tryd.func7, Tryd.ntmps7
    go_wp2_with fail
    refine ha.mono ?_
    rintro e w1 ⟨rfl, k1⟩
    go_wp2_with fail
    go_ret
    exact ⟨rfl, k1⟩
  have i2 : ¬ (7000 : Int) < b.size := by omega
  have l1 := fun W => rlines_any a (by omega) W
  have l2 := fun W => rlines_any b (by omega) W
  have n1 : (lin [] (bs a)).length ≤ 7000 := by have := lin_len (bs a) []; rw [bs_len] at this; simp at this; omega
  have n2 : (lin [] (bs b)).length ≤ 7000 := by have := lin_len (bs b) []; rw [bs_len] at this; simp at this; omega
  have hw : IntKind.i64.wrap (((lin [] (bs a)).length : Int) + ((lin [] (bs b)).length : Int)) = ((lin [] (bs a)).length : Int) + ((lin [] (bs b)).length : Int) := by rw [IntKind.wrap_i64]; omega
  have hj := @parse_join (bs a) (bs b) (by rw [bs_len]; omega) (by rw [bs_len]; omega)
  generalize (lin [] (bs a)).length = n at *
  generalize (lin [] (bs b)).length = m at *
  by_cases h3 : 900 < n + m
  · have i3 : (900 : Int) < (n : Int) + m := by omega
    clear h1 h2 h3 hj n1 n2
    go_enter Tryd.func7, Tryd.ntmps7
    go_wp2_with fail
    refine ha.mono ?_
    rintro e w1 ⟨rfl, k1⟩
    go_wp2_with fail
    refine (l1 _).mono ?_
    rintro e w2 ⟨a2, c2, rfl, g2⟩
    have k2 := k1.trans g2.keep
    clear g2
    go_wp2_with fail
    refine (l2 _).mono ?_
    rintro e w3 ⟨a3, c3, rfl, g3⟩
    have k3 := k2.trans g3.keep
    clear g3
    go_wp2_with fail
    go_ret
    exact ⟨rfl, k3⟩
  have i3 : ¬ (900 : Int) < (n : Int) + m := by omega
  have hJ := hj (by omega)
  have s1 : ¬ 9223372036854775807 < a.size + 1 := by omega
  have s2 : ¬ 9223372036854775807 < a.size + 1 + b.size := by omega
  have hbs : bs (a ++ ⟨#[10]⟩ ++ b) = bs a ++ 10 :: bs b := by
    rw [bs_append, bs_append, show bs ⟨#[10]⟩ = [10] from by decide]
    simp
  rw [← hbs] at hJ
  have p1 := fun W hW => sparse_any a W hW
  have p2 := fun W hW => sparse_any b W hW
  have p3 := fun W hW => sparse_any (a ++ ⟨#[10]⟩ ++ b) W hW
  have q1 := print_of a
  have q2 := print_of b
  have q3 := print_of (a ++ ⟨#[10]⟩ ++ b)
  have z1 := (parse_fit a).2
  have z2 := (parse_fit b).2
  have y1 := parse_prt a
  have y2 := parse_prt b
  have x1 := par_bound a
  have x2 := par_bound b
  have x3 := par_bound (a ++ ⟨#[10]⟩ ++ b)
  clear h1 h2 h3 hj hbs n1 n2
  generalize hab : a ++ ⟨#[10]⟩ ++ b = ab at *
  have hab' : a ++ (⟨#[10]⟩ ++ b) = ab := by rw [← hab, ByteArray.append_assoc]
  generalize parse (bs a) = PA at *
  generalize parse (bs b) = PB at *
  generalize parse (bs ab) = PC at *
  obtain ⟨L1, N1, E1⟩ := PA
  obtain ⟨L2, N2, E2⟩ := PB
  obtain ⟨L3, N3, E3⟩ := PC
  simp only at *
  by_cases hE1 : E1 = 0
  · subst hE1
    by_cases hE2 : E2 = 0
    · subst hE2
      obtain ⟨rfl, rfl⟩ := hJ.2.2 rfl rfl
      have t1 : str (prt (L1 ++ L2)) = str (prt L1) ++ str (prt L2) := by rw [prt_app, str_append]
      have u1 : (str (prt L1)).size ≤ 100000000 := by rw [str_size]; exact y1
      have u2 : (str (prt L2)).size ≤ 100000000 := by rw [str_size]; exact y2
      have hl : (L1 ++ L2).length = L1.length + L2.length := List.length_append
      rw [hl] at p3 q3
      have hw2 : IntKind.i64.wrap ((L1.length : Int) + (L2.length : Int)) = ((L1.length + L2.length : Nat) : Int) := by rw [IntKind.wrap_i64]; omega
      rw [t1] at q3
      generalize str (prt L1) = X at *
      generalize str (prt L2) = Y at *
      have s3 : ¬ 9223372036854775807 < X.size + Y.size := by omega
      clear hJ t1 u1 u2 hl y1 y2 x1 x2 x3
      go_enter Tryd.func7, Tryd.ntmps7
      go_wp2_with fail
      refine ha.mono ?_
      rintro e w1 ⟨rfl, k1⟩
      go_wp2_with fail
      refine (l1 _).mono ?_
      rintro e w2 ⟨a2, c2, rfl, g2⟩
      have k2 := k1.trans g2.keep
      clear g2
      go_wp2_with fail
      refine (l2 _).mono ?_
      rintro e w3 ⟨a3, c3, rfl, g3⟩
      have k3 := k2.trans g3.keep
      clear g3
      go_wp2_with fail
      refine (p1 _ (HG.out.keep k3).1).mono ?_
      rintro e w4 ⟨a4, c4, rfl, g4⟩
      have k4 := k3.trans g4.keep
      go_wp2_with fail
      refine (p2 _ (HG.out.keep k4).1).mono ?_
      rintro e w5 ⟨a5, c5, rfl, g5⟩
      have k5 := k4.trans g5.keep
      go_wp2_with fail
      refine (p3 _ (HG.out.keep k5).1).mono ?_
      rintro e w6 ⟨a6, c6, rfl, g6⟩
      have k6 := k5.trans g6.keep
      have r4 := g4.rd.keep (g5.keep.trans g6.keep)
      have r5 := g5.rd.keep g6.keep
      have r6 := g6.rd
      clear g4 g5 g6
      go_wp2_with fail
      refine (q3 _ _ _ (HG.out.keep k6) r6).mono ?_
      rintro e w7 ⟨rfl, k7⟩
      have k67 := k6.trans k7
      go_wp2_with fail
      refine (q1 _ _ _ (HG.out.keep k67) (r4.keep k7)).mono ?_
      rintro e w8 ⟨rfl, k8⟩
      have k68 := k67.trans k8
      go_wp2_with fail
      refine (q2 _ _ _ (HG.out.keep k68) ((r5.keep k7).keep k8)).mono ?_
      rintro e w9 ⟨rfl, k9⟩
      go_wp2_with fail
      go_ret
      exact ⟨rfl, k68.trans k9⟩
    · obtain ⟨rfl, rfl, hle⟩ := hJ.2.1 rfl hE2
      have hle' : (N2 : Int) ≤ N3 := by omega
      clear hJ q1 q2 q3 y1 y2 x1 x2 x3 hE2
      go_enter Tryd.func7, Tryd.ntmps7
      go_wp2_with fail
      refine ha.mono ?_
      rintro e w1 ⟨rfl, k1⟩
      go_wp2_with fail
      refine (l1 _).mono ?_
      rintro e w2 ⟨a2, c2, rfl, g2⟩
      have k2 := k1.trans g2.keep
      clear g2
      go_wp2_with fail
      refine (l2 _).mono ?_
      rintro e w3 ⟨a3, c3, rfl, g3⟩
      have k3 := k2.trans g3.keep
      clear g3
      go_wp2_with fail
      refine (p1 _ (HG.out.keep k3).1).mono ?_
      rintro e w4 ⟨a4, c4, rfl, g4⟩
      have k4 := k3.trans g4.keep
      go_wp2_with fail
      refine (p2 _ (HG.out.keep k4).1).mono ?_
      rintro e w5 ⟨a5, c5, rfl, g5⟩
      have k5 := k4.trans g5.keep
      go_wp2_with fail
      refine (p3 _ (HG.out.keep k5).1).mono ?_
      rintro e w6 ⟨a6, c6, rfl, g6⟩
      have k6 := k5.trans g6.keep
      clear g4 g5 g6
      go_wp2_with fail
      go_ret
      exact ⟨rfl, k6⟩
  · obtain ⟨rfl, hle⟩ := hJ.1 hE1
    injection hle with hle1 hle2
    subst hle1 hle2
    clear hJ q1 q2 q3 y1 y2 x1 x2 x3 hE1
    go_enter Tryd.func7, Tryd.ntmps7
    go_wp2_with fail
    refine ha.mono ?_
    rintro e w1 ⟨rfl, k1⟩
    go_wp2_with fail
    refine (l1 _).mono ?_
    rintro e w2 ⟨a2, c2, rfl, g2⟩
    have k2 := k1.trans g2.keep
    clear g2
    go_wp2_with fail
    refine (l2 _).mono ?_
    rintro e w3 ⟨a3, c3, rfl, g3⟩
    have k3 := k2.trans g3.keep
    clear g3
    go_wp2_with fail
    refine (p1 _ (HG.out.keep k3).1).mono ?_
    rintro e w4 ⟨a4, c4, rfl, g4⟩
    have k4 := k3.trans g4.keep
    go_wp2_with fail
    refine (p2 _ (HG.out.keep k4).1).mono ?_
    rintro e w5 ⟨a5, c5, rfl, g5⟩
    have k5 := k4.trans g5.keep
    go_wp2_with fail
    refine (p3 _ (HG.out.keep k5).1).mono ?_
    rintro e w6 ⟨a6, c6, rfl, g6⟩
    have k6 := k5.trans g6.keep
    clear g4 g5 g6
    go_wp2_with fail
    go_ret
    exact ⟨rfl, k6⟩
end Tg
end Go.Proofs.YtgilagmgepogbaaDoor
