/-
  The document's own lines and numbers of a script: Lines, empty, Skip, Number, Num over any memory.
-/
import Derived.Test.YtgilagmgepogbaaDoorRa
set_option linter.unusedVariables false
namespace Go.Proofs.YtgilagmgepogbaaDoor
open Go.ChangeShapes Go.WideShapes Go.ChangeAt Go.RowKit
namespace Tg
open Qm Km

/-- A row with nothing in it that has just been made. -/
theorem make_none {t e : TypeId} {sz : Nat} {z : Value} {by' : Nat} (ht : Tryd.prog.underlying t = some (.slice e)) (hinf : (Tryd.prog.info? e).map (fun i => (i.zero, i.size, i.bytes)) = some (some z, sz, by')) (hby : by' ≤ 64) (w : World) :
    ∃ w', (Instr.makeSlice t (.int .i64 0) (.int .i64 0)).run Tryd.prog w = .ok (.slice (some ⟨w.heap.size, 0, none⟩) 0 0) w' ∧ Gw e sz w w' (some ⟨w.heap.size, 0, none⟩) 0 0 [] := by
  obtain ⟨i, hi, hz0, hz1, hz2⟩ := info_parts hinf
  have hr := run_make (P := Tryd.prog) w t e i z ht hi hz0 .i64 .i64 0 0 (by omega) (by omega) (by rw [hz2]; omega) (by omega)
  refine ⟨_, hr, ⟨⟨by simp, Or.inr ⟨w.heap.size, 0, _, rfl, Nat.le_refl _, heap_alloc_new w _, Nat.le_refl _, by unfold maxLen; omega, ?_, by simp⟩⟩, (Keep.refl _ _).alloc _⟩⟩
  simp [madeCells]

set_option maxHeartbeats 2000000 in
set_option maxRecDepth 100000 in
/-- Lines. -/
theorem rlines_any (s : ByteArray) (hs : s.size ≤ 10000000) (w : World) : Calls Tryd.prog 17 #[.string s] w fun e w' => ∃ a cap, e = .returned (.slice a (lin [] (bs s)).length cap) ∧ Gw 9 1 w w' a (lin [] (bs s)).length cap (scs (lin [] (bs s))) := by
  have HS : Hid (s.size ≤ 10000000 ∧ (lin [] (bs s)).length ≤ 10000000) := ⟨hs, by have := lin_len (bs s) []; rw [bs_len] at this; simp at this; omega⟩
  clear hs
  obtain ⟨w1, hmk, hw1⟩ := make_none (t := 47) Tryd.underlying47 info9 (by decide) w
  have HW1 : Hid (Gw 9 1 w w1 (some ⟨w.heap.size, 0, none⟩) 0 0 []) := hw1
  clear hw1
  go_enter Tryd.func17, Tryd.ntmps17
  go_wp2_with fail
  clear hmk
  go_loopw [3, 4, 5] (fun x y z wr => ∃ (pos b : Nat) (a : Option Addr) (cap : Nat) (L : List (List Nat)), x = .slice a L.length cap ∧ y = .int .i64 (b : Nat) ∧ z = .int .i64 (pos : Nat) ∧ Gw 9 1 w wr a L.length cap (scs L) ∧ b ≤ pos ∧ pos ≤ s.size ∧ L ++ lin (cur (bs s) b pos) ((bs s).drop pos) = lin [] (bs s)) (fun _ _ z _ => s.size - (intOf z).toNat)
  case atStart => exact ⟨0, 0, _, 0, [], rfl, rfl, rfl, HW1.out, by omega, by omega, by simp [cur]⟩
  case round =>
    obtain ⟨pos, b, a, cap, L, rfl, rfl, rfl, hI, h1, h2, h3⟩ := hrel
    have hLl : L.length ≤ 10000000 := by
      have := congrArg List.length h3
      rw [List.length_append] at this
      have := HS.out.2
      omega
    by_cases hp : pos < s.size
    · have hcons := bs_cons s hp
      have j1 : (pos : Int) < s.size := by omega
      have j2 : IntKind.i64.wrap ((pos : Int) + 1) = (pos : Int) + 1 := by have := HS.out.1; rw [IntKind.wrap_i64]; omega
      by_cases h10 : (s[pos]'hp).toNat = 10
      · have h10' : ((s[pos]'hp).toNat : Int) = 10 := by omega
        obtain ⟨a3, cap3, w3, hrun, hI3⟩ := hI.app1 (t := 47) Tryd.underlying47 info9 rfl (by decide) (by decide) (by omega) [.string (str (cur (bs s) b pos))] rfl (by intro u hu; simp at hu; subst hu; rfl)
        rw [scs_app] at hI3
        rw [← extract_cur s h1] at hrun
        have H : Hid (Gw 9 1 w w3 a3 (L.length + 1) cap3 (scs (L ++ [cur (bs s) b pos])) ∧ (L ++ [cur (bs s) b pos]) ++ lin (cur (bs s) (pos + 1) (pos + 1)) ((bs s).drop (pos + 1)) = lin [] (bs s)) := by
          refine ⟨hI3, ?_⟩
          rw [← h3, cur_nil, hcons, h10]
          simp [lin]
        have hb1 : (b : Int) ≤ pos := by omega
        have hb2 : (pos : Int) ≤ s.size := by omega
        clear hI hI3 h3 hLl hcons h10
        go_wp2_with (at_builtin; refine wpList_app rfl (.tmp 17) (.tmp 22) 47 47 rfl (by rfl) (by rfl) hrun ?_)
        refine ⟨⟨pos + 1, pos + 1, a3, cap3, L ++ [cur (bs s) b pos], by rw [List.length_append]; rfl, by rw [Int.natCast_add]; rfl, by rw [Int.natCast_add]; rfl, by rw [List.length_append]; exact H.out.1, by omega, by omega, H.out.2⟩, ?_⟩
        simp [intOf]
        omega
      · have h10' : ¬ ((s[pos]'hp).toNat : Int) = 10 := by omega
        have h10'' : (((s[pos]'hp).toNat : Int) == 10) = false := by rw [beq_eq_false_iff_ne]; omega
        have H : Hid (Gw 9 1 w wr a L.length cap (scs L) ∧ L ++ lin (cur (bs s) b (pos + 1)) ((bs s).drop (pos + 1)) = lin [] (bs s)) := by
          refine ⟨hI, ?_⟩
          rw [← h3, cur_on h1, hcons]
          simp [lin, h10]
        clear hI h3 hLl hcons h10
        go_wp2_with fail
        go_roundw
        case rel => exact ⟨pos + 1, b, a, cap, L, rfl, rfl, by rw [Int.natCast_add]; rfl, H.out.1, by omega, by omega, H.out.2⟩
        case measure => simp [intOf]; omega
    · obtain rfl : pos = s.size := by omega
      have j1 : ¬ (s.size : Int) < s.size := by omega
      rw [drop_end hp] at h3
      have hcd : cur (bs s) b s.size = (bs s).drop b := by
        unfold cur
        rw [List.take_of_length_le (by rw [List.length_drop, bs_len]; omega)]
      rw [hcd] at h3
      by_cases hb : b < s.size
      · have hne : (bs s).drop b ≠ [] := drop_ne hb
        simp only [lin] at h3
        rw [if_neg hne] at h3
        obtain ⟨a3, cap3, w3, hrun, hI3⟩ := hI.app1 (t := 47) Tryd.underlying47 info9 rfl (by decide) (by decide) (by omega) [.string (str ((bs s).drop b))] rfl (by intro u hu; simp at hu; subst hu; rfl)
        rw [scs_app, h3] at hI3
        rw [← extract_tail] at hrun
        have H : Hid (Gw 9 1 w w3 a3 (L.length + 1) cap3 (scs (lin [] (bs s))) ∧ (lin [] (bs s)).length = L.length + 1) := ⟨hI3, by rw [← h3]; simp⟩
        have b1 : (b : Int) < s.size := by omega
        have b2 : (b : Int) ≤ s.size := by omega
        clear hI hI3 hne h3 hLl hcd hp
        go_wp2_with (at_builtin; refine wpList_app rfl (.tmp 30) (.tmp 34) 47 47 rfl (by rfl) (by rfl) hrun ?_)
        go_ret
        exact ⟨a3, cap3, by rw [H.out.2]; rfl, by rw [H.out.2]; exact H.out.1⟩
      · have he : (bs s).drop b = [] := drop_end hb
        rw [he] at h3
        simp only [lin, if_true, List.append_nil] at h3
        have H : Hid (Gw 9 1 w wr a L.length cap (scs L) ∧ L = lin [] (bs s)) := ⟨hI, h3⟩
        have b1 : ¬ (b : Int) < s.size := by omega
        clear hI h3 hLl hcd hp he
        go_wp2_with fail
        go_ret
        exact ⟨a, cap, by rw [← H.out.2]; rfl, by rw [← H.out.2]; exact H.out.1⟩

theorem str_nil_no {l : List Nat} (hb : ∀ x ∈ l, x < 256) (h : l ≠ []) : ((str l).toList == []) = false := by
  have := beq_no (a := str l) (b := ⟨#[]⟩) fun x => h (by rw [← bs_str hb, x]; rfl)
  rwa [ByteArray.toList_eq ⟨#[]⟩] at this
set_option maxRecDepth 100000 in
/-- empty. -/
theorem rempty_any (s : ByteArray) (hs : s.size ≤ 9000000000000000000) (w : World) : Calls Tryd.prog 36 #[.string s] w fun e w' => e = .returned (.bool (ends (bs s))) ∧ Keep (fun _ => False) w w' := by
  have hw := rword_any s hs w
  have h0 := wrd_rst (bs s)
  have hb1 : ∀ x ∈ wrd (bs s), x < 256 := fun x hx => bs_byte s x (wrd_mem hx)
  have hb2 : ∀ x ∈ rst (bs s), x < 256 := fun x hx => bs_byte s x (rst_mem hx)
  have hE : ends (bs s) = (skp (bs s) == []) := rfl
  by_cases h1 : wrd (bs s) = []
  · by_cases h2 : rst (bs s) = []
    · have he : ends (bs s) = true := by rw [hE, ← h0, h1, h2]; rfl
      rw [he]
      rw [h1, h2, show str [] = ⟨#[]⟩ from rfl] at hw
      clear h0 hb1 hb2 hE h1 h2 he
      go_enter Tryd.func36, Tryd.ntmps36
      go_wp2_with fail
      refine hw.mono ?_
      rintro e w1 ⟨rfl, k1⟩
      go_wp2_with fail
      go_ret
      exact ⟨rfl, k1⟩
    · have he : ends (bs s) = false := by rw [hE, ← h0, h1]; simpa using h2
      have hn := str_nil_no hb2 h2
      rw [he]
      rw [h1, show str [] = ⟨#[]⟩ from rfl] at hw
      clear h0 hb1 hb2 hE h1 h2 he
      generalize str (rst (bs s)) = Y at *
      go_enter Tryd.func36, Tryd.ntmps36
      go_wp2_with fail
      refine hw.mono ?_
      rintro e w1 ⟨rfl, k1⟩
      go_wp2_with fail
      go_ret
      exact ⟨rfl, k1⟩
  · have he : ends (bs s) = false := by rw [hE, ← h0]; simp [h1]
    have hn := str_nil_no hb1 h1
    rw [he]
    clear h0 hb1 hb2 hE h1 he
    generalize str (rst (bs s)) = Y at *
    generalize str (wrd (bs s)) = X at *
    go_enter Tryd.func36, Tryd.ntmps36
    go_wp2_with fail
    refine hw.mono ?_
    rintro e w1 ⟨rfl, k1⟩
    go_wp2_with fail
    go_ret
    exact ⟨rfl, k1⟩

/-- A line with no byte 10 has a word, or nothing but blanks. -/
theorem wrd_nil {l : List Nat} (h : ∀ x ∈ l, x ≠ 10) : (wrd l = [] ↔ skp l = []) ∧ (wrd l ≠ [] → (wrd l).headD 0 = (skp l).headD 0) := by
  have e := wrd_rst l
  cases hs : skp l with
  | nil => rw [hs] at e; have := List.append_eq_nil_iff.1 e; exact ⟨⟨fun _ => rfl, fun _ => this.1⟩, fun h => absurd this.1 h⟩
  | cons c r =>
    have hc : c ≠ 10 := h c (skp_mem (by rw [hs]; exact List.mem_cons_self ..))
    have hb : bl c = false := by
      have := List.head?_dropWhile_not bl l
      unfold skp at hs
      rw [hs] at this
      simpa using this
    have hw : wrd l = c :: r.takeWhile (fun c => !we c) := by
      unfold wrd
      rw [hs]
      have : we c = false := by rw [we_bl, hb]; simpa using hc
      simp [this]
    rw [hw]
    exact ⟨⟨fun h => (by cases h), fun h => (by cases h)⟩, fun _ => rfl⟩
theorem over_wrd {l : List Nat} (h : ∀ x ∈ l, x ≠ 10) : over l = (wrd l == [] || (wrd l).headD 0 == 35) := by
  have hn := wrd_nil h
  unfold over
  by_cases h1 : wrd l = []
  · rw [h1, hn.1.1 h1]
  · rw [hn.2 h1]
    have h2 : skp l ≠ [] := fun e => h1 (hn.1.2 e)
    rw [beq_eq_false_iff_ne.2 h1, beq_eq_false_iff_ne.2 h2]
set_option maxRecDepth 100000 in
/-- Skip. -/
theorem rskip_any (s : ByteArray) (hs : s.size ≤ 9000000000000000000) (hn : ∀ x ∈ bs s, x ≠ 10) (w : World) : Calls Tryd.prog 24 #[.string s] w fun e w' => e = .returned (.bool (over (bs s))) ∧ Keep (fun _ => False) w w' := by
  have hw := rword_any s hs w
  have hov := over_wrd hn
  have hb1 : ∀ x ∈ wrd (bs s), x < 256 := fun x hx => bs_byte s x (wrd_mem hx)
  have hX : bs (str (wrd (bs s))) = wrd (bs s) := bs_str hb1
  rw [hov]
  generalize str (rst (bs s)) = Y at *
  by_cases h1 : wrd (bs s) = []
  · rw [h1, show str [] = ⟨#[]⟩ from rfl] at hw
    rw [h1]
    clear hov hb1 hX h1
    go_enter Tryd.func24, Tryd.ntmps24
    go_wp2_with fail
    refine hw.mono ?_
    rintro e w1 ⟨rfl, k1⟩
    go_wp2_with fail
    go_ret
    exact ⟨rfl, k1⟩
  · have hne := str_nil_no hb1 h1
    generalize str (wrd (bs s)) = X at *
    rw [← hX] at h1 ⊢
    have hl : 0 < X.size := by
      have := List.length_pos_iff.2 h1
      rwa [bs_len] at this
    have hc := bs_cons X hl
    rw [List.drop_zero] at hc
    have j1 : (0 : Int) < X.size := by omega
    have he : (bs X == [] || (bs X).headD 0 == 35) = ((X[0]'hl).toNat == 35) := by rw [hc]; simp
    rw [he]
    clear hov hb1 hX h1 hc he
    by_cases h35 : (X[0]'hl).toNat = 35
    · have h35' : ((X[0]'hl).toNat : Int) = 35 := by omega
      rw [h35]
      clear h35
      go_enter Tryd.func24, Tryd.ntmps24
      go_wp2_with fail
      refine hw.mono ?_
      rintro e w1 ⟨rfl, k1⟩
      go_wp2_with fail
      go_ret
      exact ⟨rfl, k1⟩
    · have h35' : ¬ ((X[0]'hl).toNat : Int) = 35 := by omega
      have h36 : (((X[0]'hl).toNat : Int) == 35) = false := by rw [beq_eq_false_iff_ne]; exact h35'
      rw [show ((X[0]'hl).toNat == 35) = false by simpa using h35]
      clear h35
      go_enter Tryd.func24, Tryd.ntmps24
      go_wp2_with fail
      refine hw.mono ?_
      rintro e w1 ⟨rfl, k1⟩
      go_wp2_with fail
      go_ret
      exact ⟨rfl, k1⟩

theorem ng_at {s : ByteArray} (hl : 0 < s.size) : ng (bs s) = ((s[0]'hl).toNat == 45) := by
  have hc := bs_cons s hl
  rw [List.drop_zero] at hc
  rw [hc]; rfl
set_option maxHeartbeats 2000000 in
set_option maxRecDepth 100000 in
/-- Number, behind the sign. -/
theorem rnumber_any (s : ByteArray) (w : World) : Calls Tryd.prog 37 #[.string s] w fun e w' => e = .returned (.tuple #[.int .i64 ((num (bs s)).getD 0), .bool (num (bs s)).isSome]) ∧ Keep (fun _ => False) w w' := by
  have hb := dig_str s
  have hN := @num_none (bs s)
  have hD := @num_dgs (bs s)
  have hsz : (str (dig (bs s))).size = (dig (bs s)).length := str_size _
  by_cases hz : s.size = 0
  · have hs0 : bs s = [] := List.eq_nil_of_length_eq_zero (by rw [bs_len]; exact hz)
    have hse : s = ⟨#[]⟩ := by rw [← str_bs s, hs0]; rfl
    have hnum : num (bs s) = none := by rw [hs0]; rfl
    rw [hnum]
    subst hse
    clear hb hN hD hsz hs0 hnum hz
    go_enter Tryd.func37, Tryd.ntmps37
    go_wp2_with fail
    go_ret2
    exact ⟨rfl, Keep.refl _ _⟩
  have hl : 0 < s.size := by omega
  have i0 : (0 : Int) < s.size := by omega
  have hng := ng_at hl
  have hdg : str (dig (bs s)) = if ng (bs s) then s.extract 1 s.size else s := by
    unfold dig
    split
    · rw [extract_tail]
    · rw [str_bs]
  generalize str (dig (bs s)) = t at *
  generalize dig (bs s) = D at *
  generalize num (bs s) = R at *
  generalize ng (bs s) = G at *
  cases G with
  | true =>
      have h45 : ((s[0]'hl).toNat : Int) = 45 := by simp at hng; omega
      have heq : s.extract 1 s.size = t := by rw [hdg]; rfl
      have i1 : (1 : Int) ≤ s.size := by omega
      clear hdg hng
      by_cases h0 : D = []
      · obtain rfl := hN (Or.inl h0)
        have z0 : (t.size : Int) = 0 := by rw [hsz, h0]; rfl
        clear hN hD hb h0 hsz
        skip
        go_enter Tryd.func37, Tryd.ntmps37
        go_wp2_with fail
        go_ret2
        exact ⟨rfl, Keep.refl _ _⟩
      have z0 : ¬ (t.size : Int) = 0 := fun e => h0 (List.eq_nil_of_length_eq_zero (by rw [← hsz]; omega))
      have z1 : ((t.size : Int) == 0) = false := by rw [beq_eq_false_iff_ne]; exact z0
      by_cases h9 : 9 < D.length
      · obtain rfl := hN (Or.inr h9)
        have i9 : (9 : Int) < t.size := by omega
        clear hN hD hb h0 hsz h9
        go_enter Tryd.func37, Tryd.ntmps37
        go_wp2_with fail
        go_ret2
        exact ⟨rfl, Keep.refl _ _⟩
      have i9 : ¬ (9 : Int) < t.size := by omega
      have HR : Hid (R = (dgs (bs t) 0).map (fun n : Nat => if true then -(n : Int) else (n : Int)) ∧ t.size ≤ 9) := ⟨by rw [hb]; exact hD h0 (by omega), by omega⟩
      clear hN hD hb h0 hsz h9
      go_enter Tryd.func37, Tryd.ntmps37
      go_wp2_with fail
      go_loopw [6, 7] (fun x y wr => ∃ (pos v : Nat), x = .int .i64 (v : Nat) ∧ y = .int .i64 (pos : Nat) ∧ wr = w ∧ dgs ((bs t).drop pos) v = dgs (bs t) 0 ∧ v < 10 ^ pos ∧ pos ≤ t.size) (fun _ y _ => t.size - (intOf y).toNat)
      case atStart => exact ⟨0, 0, rfl, rfl, by first | rfl | trivial, by simp, by decide, by omega⟩
      case round =>
        obtain ⟨pos, v, rfl, rfl, rfl, h1, h2, h3⟩ := hrel
        by_cases hp : pos < t.size
        · have hcons := bs_cons t hp
          have j1 : (pos : Int) < t.size := by omega
          have hvb := pow_le9 (p := pos) (by have := HR.out.2; omega)
          have j2 : IntKind.i64.wrap ((pos : Int) + 1) = (pos : Int) + 1 := by have := HR.out.2; rw [IntKind.wrap_i64]; omega
          by_cases hd : 48 ≤ (t[pos]'hp).toNat ∧ (t[pos]'hp).toNat ≤ 57
          · have H : Hid (dgs ((bs t).drop (pos + 1)) (10 * v + ((t[pos]'hp).toNat - 48)) = dgs (bs t) 0 ∧ 10 * v + ((t[pos]'hp).toNat - 48) < 10 ^ (pos + 1)) := by
              refine ⟨?_, by rw [Nat.pow_succ]; omega⟩
              rw [← h1, hcons]
              simp only [dgs]
              rw [if_pos hd]
            have c1 : ¬ ((t[pos]'hp).toNat : Int) < 48 := by omega
            have c2 : ¬ (57 : Int) < (t[pos]'hp).toNat := by omega
            have c3 : IntKind.i64.wrap (10 * (v : Int)) = 10 * (v : Int) := by rw [IntKind.wrap_i64]; omega
            have c4 : IntKind.u8.wrap (((t[pos]'hp).toNat : Int) - 48) = ((t[pos]'hp).toNat : Int) - 48 := by rw [IntKind.wrap_u8]; omega
            have c5 : IntKind.i64.wrap (((t[pos]'hp).toNat : Int) - 48) = ((t[pos]'hp).toNat : Int) - 48 := by rw [IntKind.wrap_i64]; omega
            have c6 : IntKind.i64.wrap (10 * (v : Int) + (((t[pos]'hp).toNat : Int) - 48)) = ((10 * v + ((t[pos]'hp).toNat - 48) : Nat) : Int) := by rw [IntKind.wrap_i64]; omega
            clear hcons h1 h2 hd hvb
            go_wp2_with fail
            go_roundw
            case rel => exact ⟨pos + 1, 10 * v + ((t[pos]'hp).toNat - 48), rfl, by rw [Int.natCast_add]; rfl, by first | rfl | trivial, H.out.1, H.out.2, by omega⟩
            case measure => simp [intOf]; omega
          · have H : Hid (R = none) := by
              show R = none
              rw [HR.out.1, ← h1, hcons]
              simp only [dgs]
              rw [if_neg hd]
              rfl
            clear hcons h1 h2 hvb
            by_cases c1 : ((t[pos]'hp).toNat : Int) < 48
            · clear hd
              go_wp2_with fail
              go_ret2
              exact ⟨by rw [H.out]; rfl, Keep.refl _ _⟩
            · have c2 : (57 : Int) < (t[pos]'hp).toNat := by omega
              clear hd
              go_wp2_with fail
              go_ret2
              exact ⟨by rw [H.out]; rfl, Keep.refl _ _⟩
        · have hvb := pow_le9 (p := pos) (by have := HR.out.2; omega)
          rw [drop_end hp] at h1
          have H : Hid (R = some (-(v : Int))) := by show _ = _; rw [HR.out.1, ← h1]; rfl
          have j1 : ¬ (pos : Int) < t.size := by omega
          have e2 : IntKind.i64.wrap (-(v : Int)) = -(v : Int) := by rw [IntKind.wrap_i64]; omega
          clear h1
          go_wp2_with fail
          go_ret2
          exact ⟨by rw [H.out]; rfl, Keep.refl _ _⟩
  | false =>
      have h45 : ¬ ((s[0]'hl).toNat : Int) = 45 := by simp at hng; omega
      have h46 : (((s[0]'hl).toNat : Int) == 45) = false := by rw [beq_eq_false_iff_ne]; exact h45
      obtain rfl : t = s := by rw [hdg]; rfl
      clear hdg hng
      by_cases h0 : D = []
      · obtain rfl := hN (Or.inl h0)
        have z0 : (t.size : Int) = 0 := by rw [hsz, h0]; rfl
        clear hN hD hb h0 hsz
        omega
        
      have z0 : ¬ (t.size : Int) = 0 := fun e => h0 (List.eq_nil_of_length_eq_zero (by rw [← hsz]; omega))
      have z1 : ((t.size : Int) == 0) = false := by rw [beq_eq_false_iff_ne]; exact z0
      by_cases h9 : 9 < D.length
      · obtain rfl := hN (Or.inr h9)
        have i9 : (9 : Int) < t.size := by omega
        clear hN hD hb h0 hsz h9
        go_enter Tryd.func37, Tryd.ntmps37
        go_wp2_with fail
        go_ret2
        exact ⟨rfl, Keep.refl _ _⟩
      have i9 : ¬ (9 : Int) < t.size := by omega
      have HR : Hid (R = (dgs (bs t) 0).map (fun n : Nat => if false then -(n : Int) else (n : Int)) ∧ t.size ≤ 9) := ⟨by rw [hb]; exact hD h0 (by omega), by omega⟩
      clear hN hD hb h0 hsz h9
      go_enter Tryd.func37, Tryd.ntmps37
      go_wp2_with fail
      go_loopw [6, 7] (fun x y wr => ∃ (pos v : Nat), x = .int .i64 (v : Nat) ∧ y = .int .i64 (pos : Nat) ∧ wr = w ∧ dgs ((bs t).drop pos) v = dgs (bs t) 0 ∧ v < 10 ^ pos ∧ pos ≤ t.size) (fun _ y _ => t.size - (intOf y).toNat)
      case atStart => exact ⟨0, 0, rfl, rfl, by first | rfl | trivial, by simp, by decide, by omega⟩
      case round =>
        obtain ⟨pos, v, rfl, rfl, rfl, h1, h2, h3⟩ := hrel
        by_cases hp : pos < t.size
        · have hcons := bs_cons t hp
          have j1 : (pos : Int) < t.size := by omega
          have hvb := pow_le9 (p := pos) (by have := HR.out.2; omega)
          have j2 : IntKind.i64.wrap ((pos : Int) + 1) = (pos : Int) + 1 := by have := HR.out.2; rw [IntKind.wrap_i64]; omega
          by_cases hd : 48 ≤ (t[pos]'hp).toNat ∧ (t[pos]'hp).toNat ≤ 57
          · have H : Hid (dgs ((bs t).drop (pos + 1)) (10 * v + ((t[pos]'hp).toNat - 48)) = dgs (bs t) 0 ∧ 10 * v + ((t[pos]'hp).toNat - 48) < 10 ^ (pos + 1)) := by
              refine ⟨?_, by rw [Nat.pow_succ]; omega⟩
              rw [← h1, hcons]
              simp only [dgs]
              rw [if_pos hd]
            have c1 : ¬ ((t[pos]'hp).toNat : Int) < 48 := by omega
            have c2 : ¬ (57 : Int) < (t[pos]'hp).toNat := by omega
            have c3 : IntKind.i64.wrap (10 * (v : Int)) = 10 * (v : Int) := by rw [IntKind.wrap_i64]; omega
            have c4 : IntKind.u8.wrap (((t[pos]'hp).toNat : Int) - 48) = ((t[pos]'hp).toNat : Int) - 48 := by rw [IntKind.wrap_u8]; omega
            have c5 : IntKind.i64.wrap (((t[pos]'hp).toNat : Int) - 48) = ((t[pos]'hp).toNat : Int) - 48 := by rw [IntKind.wrap_i64]; omega
            have c6 : IntKind.i64.wrap (10 * (v : Int) + (((t[pos]'hp).toNat : Int) - 48)) = ((10 * v + ((t[pos]'hp).toNat - 48) : Nat) : Int) := by rw [IntKind.wrap_i64]; omega
            clear hcons h1 h2 hd hvb
            go_wp2_with fail
            go_roundw
            case rel => exact ⟨pos + 1, 10 * v + ((t[pos]'hp).toNat - 48), rfl, by rw [Int.natCast_add]; rfl, by first | rfl | trivial, H.out.1, H.out.2, by omega⟩
            case measure => simp [intOf]; omega
          · have H : Hid (R = none) := by
              show R = none
              rw [HR.out.1, ← h1, hcons]
              simp only [dgs]
              rw [if_neg hd]
              rfl
            clear hcons h1 h2 hvb
            by_cases c1 : ((t[pos]'hp).toNat : Int) < 48
            · clear hd
              go_wp2_with fail
              go_ret2
              exact ⟨by rw [H.out]; rfl, Keep.refl _ _⟩
            · have c2 : (57 : Int) < (t[pos]'hp).toNat := by omega
              clear hd
              go_wp2_with fail
              go_ret2
              exact ⟨by rw [H.out]; rfl, Keep.refl _ _⟩
        · have hvb := pow_le9 (p := pos) (by have := HR.out.2; omega)
          rw [drop_end hp] at h1
          have H : Hid (R = some ((v : Int))) := by show _ = _; rw [HR.out.1, ← h1]; rfl
          have j1 : ¬ (pos : Int) < t.size := by omega
          have e2 : IntKind.i64.wrap (-(v : Int)) = -(v : Int) := by rw [IntKind.wrap_i64]; omega
          clear h1
          go_wp2_with fail
          go_ret2
          exact ⟨by rw [H.out]; rfl, Keep.refl _ _⟩

end Tg
end Go.Proofs.YtgilagmgepogbaaDoor
