/-
  The document's own Table, Holes, Ends at any capacity, walked.
-/
import Derived.Test.YtojkiambkgkecaaWd
namespace Go.Proofs.Ytojkiambkgkecaa
open Go.ChangeShapes Go.WideShapes Go.ChangeAt Go.RowKit
namespace Tg
theorem Ri.older {w0 w1 w : World} {a : Option Addr} {cap : Nat} {m : List Int} (h : Ri w1 w a cap m) (k : Keep (fun _ => False) w0 w1) : Ri w0 w a cap m := by
  refine ⟨⟨h.own.1, h.own.2.imp id ?_⟩, k.trans h.keep⟩
  rintro ⟨g, c, cur, e, hb, hh, h1, h2, h3, h4⟩
  exact ⟨g, c, cur, e, by have := k.size; omega, hh, h1, h2, h3, h4⟩
/-- Entries with one run more. -/
def putR (t : List Int) (x : Rn) : List Int := putN t x.lba.toNat x.phys x.len.toNat
def tabL (l : List Rn) : List Int := l.foldl putR blank
theorem tabL_snoc (l : List Rn) (x : Rn) : tabL (l ++ [x]) = putR (tabL l) x := by unfold tabL; rw [List.foldl_append]; rfl
theorem putR_len (t : List Int) (x : Rn) : (putR t x).length = t.length := putN_len _ _ _ _
theorem foldl_len : ∀ (l : List Rn) (t : List Int), (l.foldl putR t).length = t.length
  | [], _ => rfl
  | x :: l, t => by rw [List.foldl_cons, foldl_len l, putR_len]
theorem tabL_len (l : List Rn) : (tabL l).length = 512 := by unfold tabL; rw [foldl_len, blank_len]
/-- Runs one behind the other, put one after the other, make their map. -/
theorem tabL_page : ∀ (l : List Rn) {t : List Int}, t.length = 512 → Form l → (∀ x ∈ l, x.fin ≤ 512) → ∀ s, entry (l.foldl putR t) s = (page l s).or (entry t s)
  | [], t, _, _, _, s => by simp [page]
  | x :: l, t, ht, hf, hb, s => by
    have hx := (Form.cons.1 hf).1
    have hfin := hb x (by simp)
    unfold Rn.fin at hfin
    obtain ⟨h1, h2, h3⟩ := hx
    rw [List.foldl_cons, tabL_page l (by rw [putR_len]; exact ht) (Form.cons.1 hf).2.2 (fun y hy => hb y (by simp [hy])) s]
    unfold putR
    rw [putN_entry t x.lba.toNat x.len.toNat x.phys (by omega) s, if_neg (by omega : ¬ x.phys < 0), page]
    rw [show ((x.lba.toNat : Nat) : Int) = x.lba by omega, show ((x.len.toNat : Nat) : Int) = x.len by omega]
    by_cases c : x.lba ≤ s ∧ s < x.lba + x.len
    · rw [if_pos c, if_pos (show x.lba ≤ s ∧ s < x.fin from c), hf.page_low (show s < x.fin from c.2)]; rfl
    · rw [if_neg c, if_neg (show ¬ (x.lba ≤ s ∧ s < x.fin) from c)]
theorem tabL_of {l : List Rn} (h : Ft13 l) : Of (tabL l) l := ⟨h.form, fun s => by
  unfold tabL
  rw [tabL_page l blank_len h.form h.fin s, blank_entry]
  cases page l s <;> rfl⟩
theorem tab_foldl : ∀ (l : List Rn) {t : List Int}, t.length = 512 → Tab t → (∀ x ∈ l, 0 ≤ x.lba ∧ 1 ≤ x.len ∧ x.lba + x.len ≤ 512 ∧ 0 ≤ x.phys ∧ x.phys ≤ 1073741824) → Tab (l.foldl putR t)
  | [], _, _, h, _ => h
  | x :: l, t, ht, h, hb => by
    have hx := hb x (by simp)
    rw [List.foldl_cons]
    refine tab_foldl l (by rw [putR_len]; exact ht) ?_ (fun y hy => hb y (by simp [hy]))
    exact putN_tab h (by omega) (by omega) hx.2.2.2.2
theorem tabL_tab {l : List Rn} (h : Ft13 l) : Tab (tabL l) := tab_foldl l blank_len (tab_nil 512) (fun _ hx => h.bd hx)
theorem take_snoc {l : List Rn} {i : Nat} {x : Rn} (h : l[i]? = some x) : l.take (i + 1) = l.take i ++ [x] := by rw [List.take_add_one, h]; rfl
set_option maxRecDepth 100000 in
set_option maxHeartbeats 1000000 in
theorem table9 {w : World} {a : Option Addr} {cap : Nat} {l : List Rn} (hR : Rz w a cap l) (hF : Ft13 l) :
    Calls Try.prog 37 #[.slice a l.length cap, .int .i64 512] w fun e w' => ∃ a' c', e = .returned (.slice a' 512 c') ∧ Ri w w' a' c' (tabL l) := by
  have hnew := new9 (w := w) (C := 512) (by omega)
  have hlc := hR.1
  have hlc2 := hR.2.1
  have hn5 : l.length ≤ 512 := hF.len
  obtain ⟨n, hn⟩ : ∃ n, n = l.length := ⟨_, rfl⟩
  have hn' : Hid (n = l.length) := hn
  rw [← hn] at hlc hn5 ⊢
  clear hn
  have hR' : Hid (Rz w a cap l) := hR
  clear hR
  go_enter Try.func37, Try.ntmps37
  go_wp2_with fail
  refine hnew.mono ?_
  rintro e w1 ⟨a1, c1, rfl, R0⟩
  clear hnew
  have R1 : Ri w w1 a1 c1 (tabL (l.take 0)) := R0
  clear R0
  go_wp2_with fail
  go_loopw [5, 6] (fun tv iv wx => ∃ (i : Nat) (a1 : Option Addr) (c1 : Nat), i ≤ n ∧ iv = .int .i64 (i : Int) ∧ tv = .slice a1 512 c1 ∧ Ri w wx a1 c1 (tabL (l.take i))) (fun _ iv _ => n - (intOf iv).toNat)
  case atStart => exact ⟨0, a1, c1, by omega, rfl, rfl, R1⟩
  case round =>
    clear R1
    obtain ⟨i, a1, c1, hi, rfl, rfl, R1⟩ := hrel
    by_cases hlt : i < n
    · have hil : i < l.length := by rw [← show n = _ from hn']; exact hlt
      obtain ⟨x, hx⟩ : ∃ x, l[i]? = some x := ⟨_, List.getElem?_eq_getElem hil⟩
      have hbx := hF.bd (List.mem_of_getElem? hx)
      obtain ⟨g, o, rfl, u0, u1, u2⟩ := ((show Rz w a cap l from hR').more R1.keep).at hx
      have di : (i : Int) < (n : Int) := by omega
      have dw := wrapI (x := (i : Int) + 1) (by omega) (by omega)
      have hlt' : Hid (i < n) := hlt
      have hp := put9 (w := wr.drew) (R1.is.more ((Keep.refl (fun _ => False) wr).drew)) (by rw [tabL_len]; omega) (by rw [tabL_len]; omega) (lba := x.lba.toNat) (n := x.len.toNat) (by rw [tabL_len]; omega) (phys := x.phys) (by omega)
      rw [tabL_len, show ((x.lba.toNat : Nat) : Int) = x.lba by omega, show ((x.len.toNat : Nat) : Int) = x.len by omega] at hp
      have hsn : Hid (putN (tabL (l.take i)) x.lba.toNat x.phys x.len.toNat = tabL (l.take (i + 1))) := by show _ = _; rw [take_snoc hx, tabL_snoc]; rfl
      rw [show putN (tabL (l.take i)) x.lba.toNat x.phys x.len.toNat = _ from hsn] at hp
      have K1 := R1.keep
      clear hlt R1 hx hbx hsn hil hF
      generalize x.lba = x0 at *
      generalize x.len = x1 at *
      generalize x.phys = x2 at *
      go_wp2_with fail
      go_region_held3 (fun w' => w'.cell? ⟨g, o + i * 3, none⟩ = some (.int .i64 x0) ∧ w'.cell? ⟨g, o + i * 3 + 1, none⟩ = some (.int .i64 x1) ∧ w'.cell? ⟨g, o + i * 3 + 2, none⟩ = some (.int .i64 x2)) (first | exact ⟨u0, u1, u2⟩ | exact ⟨((Keep.refl (fun _ => False) wr).drew.trans R2.keep).cell u0, ((Keep.refl (fun _ => False) wr).drew.trans R2.keep).cell u1, ((Keep.refl (fun _ => False) wr).drew.trans R2.keep).cell u2⟩) ((go_at_call 42; refine hp.mono ?_; rintro e w2 ⟨a2, c2, rfl, R2⟩))
      go_wp2_with fail
      go_roundw
      case rel => exact ⟨i + 1, a2, c2, hlt', by go_num, rfl, R2.older ((K1.drew))⟩
      case measure => have : i < n := hlt'; simp [intOf]; omega
    · have di : ¬ (i : Int) < (n : Int) := by omega
      have R2 : Ri w wr a1 c1 (tabL l) := by
        have := R1
        rw [List.take_of_length_le (by rw [← show n = _ from hn']; omega)] at this
        exact this
      clear R1 hlt
      go_wp2_with fail
      go_ret
      exact ⟨a1, c1, rfl, R2⟩
end Tg
end Go.Proofs.Ytojkiambkgkecaa
