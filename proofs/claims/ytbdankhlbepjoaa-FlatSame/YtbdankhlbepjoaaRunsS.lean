/-
  A range of a map of runs set or cleared, as mathematics: what is below it, what is above it, runs that go on joined.
-/
import Derived.Test.YtbdankhlbepjoaaRunsM
namespace Go.Proofs.Ytbdankhlbepjoaa
namespace Tg

/-- A run's part below a sector, and from a sector on. -/
def below1 (lo : Int) (x : Rn) : List Rn := if x.fin ≤ lo then [x] else if x.lba < lo then [⟨x.lba, lo - x.lba, x.phys⟩] else []
def above1 (hi : Int) (x : Rn) : List Rn := if hi ≤ x.lba then [x] else if hi < x.fin then [⟨hi, x.fin - hi, x.phys + (hi - x.lba)⟩] else []
def belowL (lo : Int) (m : List Rn) : List Rn := m.flatMap (below1 lo)
def aboveL (hi : Int) (m : List Rn) : List Rn := m.flatMap (above1 hi)

theorem below1_mem {lo : Int} {x y : Rn} (hx : x.Ok) (h : y ∈ below1 lo x) : y.Ok ∧ y.lba = x.lba ∧ y.phys = x.phys ∧ y.fin ≤ lo ∧ y.fin ≤ x.fin ∧ (y.fin = lo ∨ y = x) := by
  unfold below1 at h
  have := hx.2.1
  split at h
  · simp at h; subst h; exact ⟨hx, rfl, rfl, by assumption, Int.le_refl _, Or.inr rfl⟩
  · split at h
    · simp at h; subst h
      refine ⟨⟨hx.1, by simp only; omega, hx.2.2⟩, rfl, rfl, ?_, ?_, Or.inl ?_⟩ <;> unfold Rn.fin at * <;> simp only <;> omega
    · simp at h
theorem above1_mem {hi : Int} {x y : Rn} (h0 : 0 ≤ hi) (hx : x.Ok) (h : y ∈ above1 hi x) : y.Ok ∧ y.fin = x.fin ∧ y.phys + y.len = x.phys + x.len ∧ hi ≤ y.lba ∧ x.lba ≤ y.lba ∧ (y.lba = hi ∨ y = x) := by
  unfold above1 at h
  have := hx.2.1
  split at h
  · simp at h; subst h; exact ⟨hx, rfl, rfl, by assumption, Int.le_refl _, Or.inr rfl⟩
  · split at h
    · simp at h; subst h
      have := hx.2.2
      refine ⟨⟨h0, ?_, ?_⟩, ?_, ?_, Int.le_refl _, ?_, Or.inl rfl⟩ <;> unfold Rn.fin at * <;> simp only <;> omega
    · simp at h
theorem below1_page {lo : Int} {x : Rn} (s : Int) : page (below1 lo x) s = if s < lo then page [x] s else none := by
  unfold below1
  by_cases h1 : x.fin ≤ lo
  · rw [if_pos h1]
    by_cases h : s < lo
    · rw [if_pos h]
    · rw [if_neg h, page, if_neg (by omega)]; rfl
  · rw [if_neg h1]
    by_cases h2 : x.lba < lo
    · rw [if_pos h2]
      have hf : (⟨x.lba, lo - x.lba, x.phys⟩ : Rn).fin = lo := by unfold Rn.fin; simp only; omega
      simp only [page, hf]
      by_cases h : s < lo
      · rw [if_pos h]
        have : (x.lba ≤ s ∧ s < lo) ↔ (x.lba ≤ s ∧ s < x.fin) := by omega
        simp only [this]
      · rw [if_neg h, if_neg (by omega)]
    · rw [if_neg h2]
      by_cases h : s < lo
      · rw [if_pos h, page, page, if_neg (by omega)]; rfl
      · rw [if_neg h]; rfl
theorem above1_page {hi : Int} {x : Rn} (s : Int) : page (above1 hi x) s = if hi ≤ s then page [x] s else none := by
  unfold above1
  by_cases h1 : hi ≤ x.lba
  · rw [if_pos h1]
    by_cases h : hi ≤ s
    · rw [if_pos h]
    · rw [if_neg h, page, if_neg (by omega)]; rfl
  · rw [if_neg h1]
    by_cases h2 : hi < x.fin
    · rw [if_pos h2]
      have hf : (⟨hi, x.fin - hi, x.phys + (hi - x.lba)⟩ : Rn).fin = x.fin := by unfold Rn.fin; simp only; omega
      simp only [page, hf]
      by_cases h : hi ≤ s
      · rw [if_pos h]
        have : (hi ≤ s ∧ s < x.fin) ↔ (x.lba ≤ s ∧ s < x.fin) := by omega
        simp only [this]
        split
        · congr 1; omega
        · rfl
      · rw [if_neg h, if_neg (by omega)]
    · rw [if_neg h2]
      by_cases h : hi ≤ s
      · rw [if_pos h, page, page, if_neg (by omega)]; rfl
      · rw [if_neg h]; rfl

theorem belowL_cons (lo : Int) (x : Rn) (m : List Rn) : belowL lo (x :: m) = below1 lo x ++ belowL lo m := rfl
theorem aboveL_cons (hi : Int) (x : Rn) (m : List Rn) : aboveL hi (x :: m) = above1 hi x ++ aboveL hi m := rfl
theorem belowL_page (lo : Int) (m : List Rn) (s : Int) : page (belowL lo m) s = if s < lo then page m s else none := by
  induction m with
  | nil => simp [belowL, page]
  | cons x m ih =>
    rw [belowL_cons, page_app, below1_page, ih, show x :: m = [x] ++ m from rfl, page_app]
    split <;> rfl
theorem aboveL_page (hi : Int) (m : List Rn) (s : Int) : page (aboveL hi m) s = if hi ≤ s then page m s else none := by
  induction m with
  | nil => simp [aboveL, page]
  | cons x m ih =>
    rw [aboveL_cons, page_app, above1_page, ih, show x :: m = [x] ++ m from rfl, page_app]
    split <;> rfl
theorem belowL_mem {lo : Int} {m : List Rn} {y : Rn} (h : y ∈ belowL lo m) : ∃ x ∈ m, y ∈ below1 lo x := List.mem_flatMap.1 h
theorem aboveL_mem {hi : Int} {m : List Rn} {y : Rn} (h : y ∈ aboveL hi m) : ∃ x ∈ m, y ∈ above1 hi x := List.mem_flatMap.1 h
theorem one_below (lo : Int) (x : Rn) : below1 lo x = [] ∨ ∃ y, below1 lo x = [y] := by
  unfold below1
  split
  · exact Or.inr ⟨_, rfl⟩
  · split
    · exact Or.inr ⟨_, rfl⟩
    · exact Or.inl rfl
theorem one_above (hi : Int) (x : Rn) : above1 hi x = [] ∨ ∃ y, above1 hi x = [y] := by
  unfold above1
  split
  · exact Or.inr ⟨_, rfl⟩
  · split
    · exact Or.inr ⟨_, rfl⟩
    · exact Or.inl rfl
theorem Form.single {y : Rn} (h : y.Ok) : Form [y] := Form.cons.2 ⟨h, by simp, Form.nil⟩
theorem belowL_fin {lo : Int} {m : List Rn} (h : Form m) {y : Rn} (hy : y ∈ belowL lo m) : y.fin ≤ lo := by
  obtain ⟨x, hx, hy⟩ := belowL_mem hy
  exact (below1_mem (h.1 x hx) hy).2.2.2.1
theorem aboveL_lba {hi : Int} (h0 : 0 ≤ hi) {m : List Rn} (h : Form m) {y : Rn} (hy : y ∈ aboveL hi m) : hi ≤ y.lba := by
  obtain ⟨x, hx, hy⟩ := aboveL_mem hy
  exact (above1_mem h0 (h.1 x hx) hy).2.2.2.1
theorem belowL_form (lo : Int) : ∀ {m : List Rn}, Form m → Form (belowL lo m)
  | [], _ => Form.nil
  | x :: m, h => by
    obtain ⟨hx, hr, hm⟩ := Form.cons.1 h
    rw [belowL_cons]
    refine Form.app.2 ⟨?_, belowL_form lo hm, fun y hy z hz => ?_⟩
    · rcases one_below lo x with e | ⟨y, e⟩
      · rw [e]; exact Form.nil
      · rw [e]; exact Form.single (below1_mem hx (by rw [e]; simp)).1
    · obtain ⟨o1, o2, o3, o4, o5, o6⟩ := below1_mem hx hy
      obtain ⟨w, hw, hz⟩ := belowL_mem hz
      obtain ⟨p1, p2, p3, p4, p5, p6⟩ := below1_mem (hm.1 w hw) hz
      have g := hr w hw
      refine ⟨by omega, ?_⟩
      rintro ⟨g1, g2⟩
      rcases o6 with o6 | rfl
      · have := p1.2.1
        unfold Rn.fin at *
        omega
      · exact g.2 ⟨by omega, by omega⟩
theorem aboveL_form {hi : Int} (h0 : 0 ≤ hi) : ∀ {m : List Rn}, Form m → Form (aboveL hi m)
  | [], _ => Form.nil
  | x :: m, h => by
    obtain ⟨hx, hr, hm⟩ := Form.cons.1 h
    rw [aboveL_cons]
    refine Form.app.2 ⟨?_, aboveL_form h0 hm, fun y hy z hz => ?_⟩
    · rcases one_above hi x with e | ⟨y, e⟩
      · rw [e]; exact Form.nil
      · rw [e]; exact Form.single (above1_mem h0 hx (by rw [e]; simp)).1
    · obtain ⟨o1, o2, o3, o4, o5, o6⟩ := above1_mem h0 hx hy
      obtain ⟨w, hw, hz⟩ := aboveL_mem hz
      obtain ⟨p1, p2, p3, p4, p5, p6⟩ := above1_mem h0 (hm.1 w hw) hz
      have g := hr w hw
      refine ⟨by omega, ?_⟩
      rintro ⟨g1, g2⟩
      rcases p6 with p6 | rfl
      · have := o1.2.1
        unfold Rn.fin at *
        omega
      · exact g.2 ⟨by omega, by omega⟩

/-- A range cleared. -/
def clearL (lo hi : Int) (m : List Rn) : List Rn := belowL lo m ++ aboveL hi m
theorem clearL_form {lo hi : Int} (h0 : 0 ≤ lo) (hl : lo < hi) {m : List Rn} (h : Form m) : Form (clearL lo hi m) :=
  Form.app.2 ⟨belowL_form lo h, aboveL_form (by omega) h, fun y hy z hz => by
    have h1 := belowL_fin h hy
    have h2 := aboveL_lba (by omega) h hz
    exact ⟨by omega, fun g => by have := g.1; omega⟩⟩
theorem clearL_page {lo hi : Int} (hl : lo ≤ hi) (m : List Rn) (s : Int) : page (clearL lo hi m) s = if lo ≤ s ∧ s < hi then none else page m s := by
  unfold clearL
  rw [page_app, belowL_page, aboveL_page]
  by_cases h1 : s < lo
  · rw [if_pos h1, if_neg (show ¬ hi ≤ s by omega), if_neg (by omega), Option.or_none]
  · rw [if_neg h1]
    by_cases h2 : hi ≤ s
    · rw [if_pos h2, if_neg (by omega)]; rfl
    · rw [if_neg h2, if_pos (by omega)]; rfl

/-- A run ahead of a list, joined where it goes on. -/
def consG (x : Rn) : List Rn → List Rn
  | [] => [x]
  | y :: m => if x.fin = y.lba ∧ x.phys + x.len = y.phys then ⟨x.lba, x.len + y.len, x.phys⟩ :: m else x :: y :: m
/-- A list ahead of a list, its last one joined where it goes on. -/
def appG : List Rn → List Rn → List Rn
  | [], m => m
  | [x], m => consG x m
  | x :: y :: a, m => x :: appG (y :: a) m
theorem consG_form {x : Rn} {m : List Rn} (hx : x.Ok) (hm : Form m) (hr : ∀ y ∈ m, x.fin ≤ y.lba) : Form (consG x m) := by
  cases m with
  | nil => exact Form.single hx
  | cons y m =>
    obtain ⟨hy, hz, hm'⟩ := Form.cons.1 hm
    rw [consG]
    split
    · next e =>
      refine Form.cons.2 ⟨⟨hx.1, by have := hx.2.1; have := hy.2.1; simp only; omega, hx.2.2⟩, fun z hz' => ?_, hm'⟩
      have g := hz z hz'
      have hf : (⟨x.lba, x.len + y.len, x.phys⟩ : Rn).fin = y.fin := by unfold Rn.fin at *; simp only; omega
      refine ⟨by rw [hf]; exact g.1, ?_⟩
      rintro ⟨g1, g2⟩
      rw [hf] at g1
      refine g.2 ⟨g1, ?_⟩
      simp only at g2
      omega
    · next e =>
      refine Form.cons.2 ⟨hx, fun z hz' => ?_, hm⟩
      rcases List.mem_cons.1 hz' with rfl | hz'
      · exact ⟨hr z (by simp), e⟩
      · have := hr z (by simp [hz'])
        have g := (hz z hz').1
        have h1 := hr y (by simp)
        have := hy.2.1
        refine ⟨by omega, fun g' => ?_⟩
        have := g'.1
        unfold Rn.fin at *
        omega
theorem consG_page (x : Rn) (m : List Rn) (hx : 0 ≤ x.len) (hm : ∀ y ∈ m, 0 ≤ y.len) (s : Int) : page (consG x m) s = page (x :: m) s := by
  cases m with
  | nil => rfl
  | cons y m =>
    rw [consG]
    split
    · next e =>
      have hy := hm y (by simp)
      have hf : (⟨x.lba, x.len + y.len, x.phys⟩ : Rn).fin = y.fin := by unfold Rn.fin at *; simp only; omega
      simp only [page, hf]
      by_cases h1 : x.lba ≤ s ∧ s < x.fin
      · rw [if_pos h1, if_pos (by unfold Rn.fin at *; omega)]
      · rw [if_neg h1]
        by_cases h2 : y.lba ≤ s ∧ s < y.fin
        · rw [if_pos h2, if_pos (by unfold Rn.fin at *; omega)]
          congr 1
          unfold Rn.fin at *
          omega
        · rw [if_neg h2, if_neg (by unfold Rn.fin at *; omega)]
    · rfl
theorem consG_head {x : Rn} {m : List Rn} {z : Rn} (h : z ∈ consG x m) : (z.lba = x.lba ∧ z.phys = x.phys) ∨ z ∈ m := by
  cases m with
  | nil => simp [consG] at h; exact Or.inl (by rw [h]; exact ⟨rfl, rfl⟩)
  | cons y m =>
    rw [consG] at h
    split at h
    · rcases List.mem_cons.1 h with rfl | h
      · exact Or.inl ⟨rfl, rfl⟩
      · exact Or.inr (by simp [h])
    · rcases List.mem_cons.1 h with rfl | h
      · exact Or.inl ⟨rfl, rfl⟩
      · exact Or.inr h
theorem appG_head : ∀ {a m : List Rn} {z : Rn}, z ∈ appG a m → (∃ w ∈ a, z.lba = w.lba ∧ z.phys = w.phys) ∨ z ∈ m
  | [], _, _, h => Or.inr h
  | [x], _, _, h => (consG_head h).imp (fun e => ⟨x, by simp, e⟩) id
  | x :: y :: a, m, z, h => by
    rw [appG] at h
    rcases List.mem_cons.1 h with rfl | h
    · exact Or.inl ⟨z, by simp, rfl, rfl⟩
    · exact (appG_head h).imp (fun ⟨w, hw, e⟩ => ⟨w, List.mem_cons_of_mem _ hw, e⟩) id
theorem appG_form : ∀ {a m : List Rn}, Form a → Form m → (∀ x ∈ a, ∀ y ∈ m, x.fin ≤ y.lba) → Form (appG a m)
  | [], m, _, hm, _ => hm
  | [x], m, ha, hm, h => consG_form (Form.cons.1 ha).1 hm (h x (by simp))
  | x :: y :: a, m, ha, hm, h => by
    obtain ⟨hx, hr, ha'⟩ := Form.cons.1 ha
    have ih := appG_form ha' hm (fun z hz w hw => h z (List.mem_cons_of_mem _ hz) w hw)
    rw [appG]
    have hyl := (Form.cons.1 ha').1.2.1
    have hxy := (hr y (by simp)).1
    refine Form.cons.2 ⟨hx, fun z hz => ?_, ih⟩
    rcases appG_head hz with ⟨w, hw, e1, e2⟩ | hz
    · have g := hr w hw
      refine ⟨by rw [e1]; exact g.1, fun g' => g.2 ?_⟩
      unfold Glued at g' ⊢; rw [e1, e2] at g'
      exact g'
    · have g := h y (by simp) z hz
      refine ⟨by unfold Rn.fin at *; omega, fun g' => ?_⟩
      have := g'.1
      unfold Rn.fin at *
      omega
theorem appG_page : ∀ {a m : List Rn}, (∀ x ∈ a, 0 ≤ x.len) → (∀ x ∈ m, 0 ≤ x.len) → ∀ s, page (appG a m) s = page (a ++ m) s
  | [], _, _, _, _ => rfl
  | [x], m, ha, hm, s => consG_page x m (ha x (by simp)) hm s
  | x :: y :: a, m, ha, hm, s => by
    rw [appG, List.cons_append]
    simp only [page]
    rw [appG_page (fun z hz => ha z (List.mem_cons_of_mem _ hz)) hm s]

/-- A run set: what lies below it, itself, what lies above it, joined where they go on. -/
def setL (r : Rn) (m : List Rn) : List Rn := appG (belowL r.lba m) (consG r (aboveL r.fin m))
theorem Form.len {m : List Rn} (h : Form m) {x : Rn} (hx : x ∈ m) : 0 ≤ x.len := by
  have := (h.1 x hx).2.1; omega
theorem setL_form {r : Rn} (hr : r.Ok) {m : List Rn} (h : Form m) : Form (setL r m) := by
  have h1 : 0 ≤ r.fin := by have := hr.1; have := hr.2.1; unfold Rn.fin; omega
  refine appG_form (belowL_form _ h) (consG_form hr (aboveL_form h1 h) fun y hy => aboveL_lba h1 h hy) fun x hx y hy => ?_
  have g := belowL_fin h hx
  rcases consG_head hy with e | e
  · rw [e.1]; exact g
  · have := aboveL_lba h1 h e
    have := hr.2.1
    unfold Rn.fin at *
    omega
theorem setL_page {r : Rn} (hr : r.Ok) {m : List Rn} (h : Form m) (s : Int) : page (setL r m) s = if r.lba ≤ s ∧ s < r.fin then some (r.phys + (s - r.lba)) else page m s := by
  have h1 : 0 ≤ r.fin := by have := hr.1; have := hr.2.1; unfold Rn.fin; omega
  have h2 := hr.2.1
  have hf := aboveL_form h1 h
  have hb := belowL_form r.lba h
  have hc : Form (consG r (aboveL r.fin m)) := consG_form hr hf fun y hy => aboveL_lba h1 h hy
  rw [setL, appG_page (fun x hx => hb.len hx) (fun x hx => hc.len hx), page_app, consG_page _ _ (by omega) (fun x hx => hf.len hx), belowL_page]
  simp only [page]
  rw [aboveL_page]
  by_cases e1 : s < r.lba
  · rw [if_pos e1, if_neg (show ¬ (r.lba ≤ s ∧ s < r.fin) by omega), if_neg (show ¬ (r.lba ≤ s ∧ s < r.fin) by omega), if_neg (show ¬ r.fin ≤ s by unfold Rn.fin at *; omega), Option.or_none]
  · rw [if_neg e1]
    by_cases e2 : r.lba ≤ s ∧ s < r.fin
    · rw [if_pos e2, if_pos e2]; rfl
    · rw [if_neg e2, if_neg e2, if_pos (by omega)]; rfl
end Tg
end Go.Proofs.Ytbdankhlbepjoaa
