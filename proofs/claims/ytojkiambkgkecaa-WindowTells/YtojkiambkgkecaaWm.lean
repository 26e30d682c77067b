/-
  A window that is written anew: how many runs it leaves (mathematics).
-/
import Derived.Test.YtojkiambkgkecaaWl
namespace Go.Proofs.Ytojkiambkgkecaa
namespace Tg
theorem consG_len (x : Rn) (m : List Rn) : (consG x m).length ≤ m.length + 1 := by
  cases m with
  | nil => simp [consG]
  | cons y m => rw [consG]; split <;> simp
theorem appG_len : ∀ a m : List Rn, (appG a m).length ≤ a.length + m.length
  | [], m => by simp [appG]
  | [x], m => by have := consG_len x m; rw [appG]; simp; omega
  | x :: y :: a, m => by
    have := appG_len (y :: a) m
    rw [appG]
    simp only [List.length_cons] at *
    omega
theorem setL_count (r : Rn) (m : List Rn) : (setL r m).length ≤ (belowL r.lba m).length + 1 + (aboveL r.fin m).length := by
  unfold setL
  have h1 := appG_len (belowL r.lba m) (consG r (aboveL r.fin m))
  have h2 := consG_len r (aboveL r.fin m)
  omega
/-- Has a run a sector in a range? -/
def inR (lo hi : Int) (x : Rn) : Bool := decide (x.lba < hi) && decide (lo < x.fin)
/-- Does a run go over a sector's beginning? -/
def crs (s : Int) (x : Rn) : Bool := decide (x.lba < s) && decide (s < x.fin)
theorem len_parts {lo hi : Int} (h : lo < hi) : ∀ m : List Rn, (∀ x ∈ m, 1 ≤ x.len) → (belowL lo m).length + (aboveL hi m).length + (m.filter (inR lo hi)).length = m.length + (m.filter (crs lo)).length + (m.filter (crs hi)).length
  | [], _ => rfl
  | x :: m, hm => by
    have ih := len_parts h m (fun y hy => hm y (by simp [hy]))
    have hx := hm x (by simp)
    have hb : (belowL lo (x :: m)).length = (below1 lo x).length + (belowL lo m).length := by unfold belowL; rw [List.flatMap_cons, List.length_append]
    have ha : (aboveL hi (x :: m)).length = (above1 hi x).length + (aboveL hi m).length := by unfold aboveL; rw [List.flatMap_cons, List.length_append]
    have hf : ∀ p : Rn → Bool, ((x :: m).filter p).length = (if p x = true then 1 else 0) + (m.filter p).length := fun p => by
      rw [List.filter_cons]; split <;> simp <;> omega
    rw [hb, ha, hf, hf, hf, List.length_cons]
    have key : (below1 lo x).length + (above1 hi x).length + (if inR lo hi x = true then 1 else 0) = 1 + (if crs lo x = true then 1 else 0) + (if crs hi x = true then 1 else 0) := by
      unfold below1 above1 inR crs Rn.fin
      simp only [Bool.and_eq_true, decide_eq_true_iff]
      by_cases c1 : x.lba + x.len ≤ lo <;> by_cases c2 : x.lba < lo <;> by_cases c3 : hi ≤ x.lba <;> by_cases c4 : hi < x.lba + x.len <;> by_cases c5 : x.lba < hi <;> by_cases c6 : lo < x.lba + x.len <;> simp [c1, c2, c3, c4, c5, c6] <;> omega
    omega
theorem crs_one {s : Int} {m : List Rn} (h : Form m) : (m.filter (crs s)).length ≤ 1 := by
  have hp := h.2.filter (crs s)
  have hq : ∀ x ∈ m.filter (crs s), x.lba < s ∧ s < x.fin := fun x hx => by
    have := (List.mem_filter.1 hx).2
    unfold crs at this
    simpa using this
  match hm : m.filter (crs s) with
  | [] => simp
  | [x] => simp
  | x :: y :: r =>
    rw [hm] at hp hq
    have h1 := (List.pairwise_cons.1 hp).1 y (by simp)
    have h2 := hq x (by simp)
    have h3 := hq y (by simp)
    omega
/-- A range that is set leaves at most three of the runs that it had. -/
theorem set_count {m : List Rn} (h : Form m) {r : Rn} (hr : 1 ≤ r.len) : (setL r m).length + (m.filter (inR r.lba r.fin)).length ≤ m.length + 3 := by
  have h1 := setL_count r m
  have h2 := len_parts (lo := r.lba) (hi := r.fin) (by unfold Rn.fin; omega) m (fun x hx => (h.1 x hx).2.1)
  have h3 := crs_one (s := r.lba) h
  have h4 := crs_one (s := r.fin) h
  omega
/-- Two runs in their form, one ahead of the other. -/
theorem Form.two {m : List Rn} (h : Form m) {x y : Rn} (hx : x ∈ m) (hy : y ∈ m) : x = y ∨ (x.fin ≤ y.lba ∧ ¬ Glued x y) ∨ (y.fin ≤ x.lba ∧ ¬ Glued y x) := by
  obtain ⟨A, B, e⟩ := List.append_of_mem hx
  rw [e] at h hy
  have h1 := Form.app.1 h
  rcases List.mem_append.1 hy with hy | hy
  · exact Or.inr (Or.inr (h1.2.2 y hy x (by simp)))
  · rcases List.mem_cons.1 hy with rfl | hy
    · exact Or.inl rfl
    · exact Or.inr (Or.inl ((Form.cons.1 h1.2.1).2.1 y hy))
/-- A range in pages one behind the other lies in one run. -/
theorem one_run {m : List Rn} (h : Form m) {lo hi P : Int} (hl : lo < hi) (hp : ∀ s, lo ≤ s → s < hi → page m s = some (P + (s - lo))) : (m.filter (inR lo hi)).length = 1 := by
  have hq : ∀ z ∈ m.filter (inR lo hi), z ∈ m ∧ z.lba ≤ lo ∧ lo < z.fin := fun z hz => by
    obtain ⟨hz1, hz2⟩ := List.mem_filter.1 hz
    unfold inR at hz2
    simp only [Bool.and_eq_true, decide_eq_true_iff] at hz2
    refine ⟨hz1, ?_, hz2.2⟩
    by_cases c : z.lba ≤ lo
    · exact c
    · exfalso
      have hzl := (h.1 z hz1).2.1
      have p1 := hp z.lba (by omega) hz2.1
      have p2 := h.page_of hz1 (s := z.lba) (by omega) (by unfold Rn.fin; omega)
      have p3 := hp (z.lba - 1) (by omega) (by omega)
      obtain ⟨u, hu, u1, u2, u3⟩ := page_mem p3
      rw [p1] at p2
      injection p2 with p2
      rcases h.two hu hz1 with rfl | ⟨g1, g2⟩ | ⟨g1, g2⟩
      · omega
      · apply g2
        unfold Glued
        unfold Rn.fin at *
        omega
      · unfold Rn.fin at *
        omega
  obtain ⟨u, hu, u1, u2, u3⟩ := page_mem (hp lo (by omega) hl)
  have hu' : u ∈ m.filter (inR lo hi) := List.mem_filter.2 ⟨hu, by unfold inR; simp only [Bool.and_eq_true, decide_eq_true_iff]; omega⟩
  have hpw := h.2.filter (inR lo hi)
  match hm : m.filter (inR lo hi) with
  | [] => rw [hm] at hu'; cases hu'
  | [x] => rfl
  | x :: y :: r =>
    rw [hm] at hpw hq
    have h1 := (List.pairwise_cons.1 hpw).1 y (by simp)
    have h2 := hq x (by simp)
    have h3 := hq y (by simp)
    omega
/-- A window's runs are those with a sector in its range. -/
theorem mcnt_in {W w : Nat} {l : List Rn} (hl : ∀ x ∈ l, x.lba < 512) : mcnt W l w = ((l.filter (inR ((w * W : Nat) : Int) (((w * W : Nat) : Int) + ricN 512 W (w * W)))).length : Int) := by
  unfold mcnt
  congr 1
  congr 1
  refine List.filter_congr (fun x hx => ?_)
  have h1 := hl x hx
  have e : (w + 1) * W = w * W + W := by rw [Nat.add_mul, Nat.one_mul]
  unfold inW inR ricN Rn.fin
  rw [e]
  generalize w * W = A at *
  congr 1
  rw [decide_eq_decide]
  split <;> omega
/-- Entries' runs are within bounds. -/
theorem refR_in {t : List Int} (ht : t.length = 512) (hE : Ent t) {x : Rn} (hx : x ∈ refR t 512) : inB x = true := by
  have hO := refR_of t
  rw [ht] at hO
  have hok := hO.1.1 x hx
  have hfin := hO.fin hx
  rw [ht] at hfin
  have hp := hO.1.page_of hx (s := x.lba) (by omega) (by unfold Rn.fin; unfold Rn.Ok at hok; omega)
  rw [hO.2 x.lba] at hp
  have he := hE x.lba.toNat
  unfold Rn.Ok at hok
  unfold Rn.fin at hfin
  rw [inB_iff]
  unfold entry at hp
  split at hp
  · injection hp with hp
    omega
  · cases hp
theorem ent_put {t : List Int} (h : Ent t) {lba n : Nat} (hr : lba + n ≤ t.length) (hn : n ≤ 512) {phys : Int} (hp : phys ≤ 1048576) : Ent (putN t lba phys n) := fun i => by
  have := h i
  rw [putN_get t lba phys n hr i]
  split
  · split <;> omega
  · exact this
theorem ent_foldl : ∀ (l : List Rn) {t : List Int}, t.length = 512 → Ent t → (∀ x ∈ l, (0 ≤ x.lba ∧ 1 ≤ x.len ∧ x.lba + x.len ≤ 512 ∧ 0 ≤ x.phys ∧ x.phys ≤ 1073741824) ∧ x.phys ≤ 1048576) → Ent (l.foldl putR t)
  | [], _, _, h, _ => h
  | x :: l, t, ht, h, hb => by
    have hx := hb x (by simp)
    rw [List.foldl_cons]
    refine ent_foldl l (by rw [putR_len]; exact ht) ?_ (fun y hy => hb y (by simp [hy]))
    exact ent_put h (by omega) (by omega) hx.2
theorem fit_refR {t : List Int} (ht : t.length = 512) (hE : Ent t) : fit13 (refR t 512) = true := by
  have hO := refR_of t
  rw [ht] at hO
  unfold fit13
  rw [decide_eq_true (refR_len t 512), form_true hO.1 (fun x hx => refR_in ht hE hx) (fun a e => by cases e), endB_of (fun x hx => by have := hO.fin hx; rw [ht] at this; exact this)]
  rfl
theorem mOk_refR {t : List Int} (ht : t.length = 512) (hE : Ent t) {W : Int} (h1 : 1 ≤ W) (h2 : W ≤ 512) : mOkB (refR t 512) 512 W = true := by
  have hO := refR_of t
  rw [ht] at hO
  unfold mOkB
  rw [fit_refR ht hE, decide_eq_true ⟨by omega, by omega, h1, h2⟩, (endC_iff hO.1).2 (fun x hx => by have := hO.fin hx; rw [ht] at this; exact this)]
  rfl
theorem fits_refR {t : List Int} (ht : t.length = 512) (hE : Ent t) : Fits (refR t 512) := fun x hx => by
  have := inB_iff.1 (refR_in ht hE hx)
  omega
/-- What a window written anew leaves. -/
theorem rewrite_sum {l : List Rn} (hF : Ft13 l) {W : Nat} (h1 : 1 ≤ W) (h2 : W ≤ 512) {phys : Int} (hp : 0 ≤ phys) {A : Nat} (hA : ric 512 W l * W = A) {y : Nat} (hy : ricN 512 W A = (y : Int)) :
    ((refR (putN (tabL l) A phys y) 512).length : Int) ≤ (l.length : Int) - (manL 512 W l).getD (ric 512 W l) 0 + 3 ∧ (manL 512 W (refR (putN (tabL l) A phys y) 512)).getD (ric 512 W l) 0 = 1 := by
  have hm := ric_mul h1 h2 l
  have hlt := ric_lt h1 h2 l
  have hbd := ricN_bd (C := 512) h1 hm
  rw [hA] at hm hbd
  rw [hy] at hbd
  have hO := (tabL_of hF).set (lba := A) (n := y) (phys := phys) (by omega) hp (by rw [tabL_len]; omega)
  have hO1 := hO.runs
  rw [putN_len, tabL_len] at hO1
  rw [← hO1]
  rw [man_get hlt, man_get hlt, mcnt_in (fun x hx => by have := hF.bd hx; omega), mcnt_in (fun x hx => by
    have h3 := hO.fin hx
    rw [putN_len, tabL_len] at h3
    have h4 := (hO.1.1 x hx).2.1
    unfold Rn.fin at h3
    omega), hA, hy]
  constructor
  · have := set_count hF.form (r := ⟨(A : Int), (y : Int), phys⟩) (by simp only; omega)
    have e : (l.filter (inR (A : Int) ((A : Int) + (y : Int)))).length = (l.filter (inR (⟨(A : Int), (y : Int), phys⟩ : Rn).lba (⟨(A : Int), (y : Int), phys⟩ : Rn).fin)).length := rfl
    rw [e]
    omega
  · have := one_run hO.1 (lo := (A : Int)) (hi := (A : Int) + (y : Int)) (P := phys) (by omega) (fun s s1 s2 => by
      rw [setL_page ⟨by simp only; omega, by simp only; omega, hp⟩ hF.form, if_pos ⟨s1, s2⟩])
    rw [this]
    rfl
end Tg
end Go.Proofs.Ytojkiambkgkecaa
