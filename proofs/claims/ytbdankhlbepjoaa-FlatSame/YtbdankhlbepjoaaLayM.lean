/-
  What the program's lay makes of a list of runs, as mathematics: the runs near a range, their parts, joined; what takes their place.
-/
import Derived.Test.YtbdankhlbepjoaaRunsR
namespace Go.Proofs.Ytbdankhlbepjoaa
namespace Tg

/-- A run's part from a sector up to another one. -/
def partR (x : Rn) (a b : Int) : Rn := ⟨max a x.lba, min (b - max a x.lba) (x.len - (max a x.lba - x.lba)), x.phys + max a x.lba - x.lba⟩
/-- A run behind others, joined where it goes on, passed over where it is empty. -/
def joinL (l : List Rn) (r : Rn) : List Rn := if r.len < 1 then l else match l.getLast? with
  | none => [r]
  | some x => if x.fin = r.lba ∧ x.phys + x.len = r.phys then l.dropLast ++ [⟨x.lba, x.len + r.len, x.phys⟩] else l ++ [r]
def joins (l : List Rn) (c : List Rn) : List Rn := c.foldl joinL l
/-- The runs that have a sector of a range, or end or begin at its ends. -/
def nearL (lo hi : Int) (m : List Rn) : List Rn := m.filter (fun x => decide (lo ≤ x.fin) && decide (x.lba ≤ hi))

theorem joins_app (l a b : List Rn) : joins l (a ++ b) = joins (joins l a) b := by simp [joins]
theorem joins_nil (l : List Rn) : joins l [] = l := rfl
theorem joins_cons (l : List Rn) (r : Rn) (c : List Rn) : joins l (r :: c) = joins (joinL l r) c := rfl
theorem joinL_empty {l : List Rn} {r : Rn} (h : r.len < 1) : joinL l r = l := by rw [joinL, if_pos h]
theorem joinL_nil {r : Rn} (h : 1 ≤ r.len) : joinL [] r = [r] := by rw [joinL, if_neg (by omega)]; rfl
theorem joinL_glue {l : List Rn} {x r : Rn} (h : 1 ≤ r.len) (g : x.fin = r.lba ∧ x.phys + x.len = r.phys) : joinL (l ++ [x]) r = l ++ [⟨x.lba, x.len + r.len, x.phys⟩] := by
  rw [joinL, if_neg (by omega)]
  simp only [List.getLast?_concat, List.dropLast_concat]
  rw [if_pos g]
theorem joinL_new {l : List Rn} {x r : Rn} (h : 1 ≤ r.len) (g : ¬ (x.fin = r.lba ∧ x.phys + x.len = r.phys)) : joinL (l ++ [x]) r = l ++ [x] ++ [r] := by
  rw [joinL, if_neg (by omega)]
  simp only [List.getLast?_concat]
  rw [if_neg g]

theorem snoc_cases (l : List Rn) : l = [] ∨ ∃ a x, l = a ++ [x] := by
  rcases List.eq_nil_or_concat l with h | ⟨a, x, h⟩
  · exact Or.inl h
  · exact Or.inr ⟨a, x, by simpa using h⟩

/-- What joining a row of runs leaves. -/
structure Jn (c l : List Rn) : Prop where
  form : Form l
  page : ∀ s, page l s = page c s
  head : ∀ y ∈ l, ∃ z ∈ c, y.lba = z.lba ∧ y.phys = z.phys
  tail : ∀ y ∈ l, ∃ z ∈ c, y.fin = z.fin ∧ y.phys + y.len = z.phys + z.len
  len : l.length ≤ c.length
theorem Jn.nil : Jn [] [] := ⟨Form.nil, fun _ => rfl, by simp, by simp, Nat.le_refl _⟩
theorem Jn.snoc {c l : List Rn} (h : Jn c l) {r : Rn} (hr : r.Ok) (hc : ∀ z ∈ c, z.fin ≤ r.lba) : Jn (c ++ [r]) (joinL l r) := by
  have hl : ∀ y ∈ l, y.fin ≤ r.lba := fun y hy => by obtain ⟨z, hz, e, -⟩ := h.tail y hy; rw [e]; exact hc z hz
  have hr1 := hr.2.1
  rcases snoc_cases l with rfl | ⟨a, x, rfl⟩
  · rw [joinL_nil hr1]
    refine ⟨Form.single hr, fun s => ?_, fun y hy => ⟨r, by simp, ?_⟩, fun y hy => ⟨r, by simp, ?_⟩, by simp⟩
    · rw [page_app, ← h.page s]; rfl
    · simp at hy; subst hy; exact ⟨rfl, rfl⟩
    · simp at hy; subst hy; exact ⟨rfl, rfl⟩
  · obtain ⟨fa, fx, fax⟩ := Form.app.1 h.form
    have hx := (Form.cons.1 fx).1
    have hx1 := hx.2.1
    have hxl := hl x (by simp)
    have hlen := h.len
    by_cases g : x.fin = r.lba ∧ x.phys + x.len = r.phys
    · rw [joinL_glue hr1 g]
      have hfin : (⟨x.lba, x.len + r.len, x.phys⟩ : Rn).fin = r.fin := by unfold Rn.fin at *; simp only; omega
      refine ⟨Form.app.2 ⟨fa, Form.single ⟨hx.1, by simp only; omega, hx.2.2⟩, fun y hy z hz => ?_⟩, fun s => ?_, fun y hy => ?_, fun y hy => ?_, by simp at hlen ⊢; omega⟩
      · rw [List.mem_singleton] at hz
        subst hz
        exact fax y hy x (by simp)
      · have hp := h.page s
        rw [page_app] at hp ⊢
        rw [page_app, ← hp]
        simp only [Tg.page, hfin]
        cases ha : Tg.page a s with
        | some v => simp
        | none =>
          simp only [Option.none_or]
          by_cases h1 : x.lba ≤ s ∧ s < x.fin
          · rw [if_pos h1, if_pos (by unfold Rn.fin at *; omega)]; simp
          · rw [if_neg h1]
            by_cases h2 : r.lba ≤ s ∧ s < r.fin
            · rw [if_pos h2, if_pos (by unfold Rn.fin at *; omega)]
              simp only [Option.none_or]
              congr 1
              unfold Rn.fin at *
              omega
            · rw [if_neg h2, if_neg (by unfold Rn.fin at *; omega)]; rfl
      · rcases List.mem_append.1 hy with hy | hy
        · obtain ⟨z, hz, e⟩ := h.head y (by simp [hy]); exact ⟨z, by simp [hz], e⟩
        · simp at hy; subst hy
          obtain ⟨z, hz, e⟩ := h.head x (by simp); exact ⟨z, by simp [hz], e⟩
      · rcases List.mem_append.1 hy with hy | hy
        · obtain ⟨z, hz, e⟩ := h.tail y (by simp [hy]); exact ⟨z, by simp [hz], e⟩
        · rw [List.mem_singleton] at hy; subst hy
          exact ⟨r, by simp, hfin, by simp only; omega⟩
    · rw [joinL_new hr1 g]
      refine ⟨Form.app.2 ⟨h.form, Form.single hr, fun y hy z hz => ?_⟩, fun s => by rw [page_app, page_app c, h.page s], fun y hy => ?_, fun y hy => ?_, by simp at hlen ⊢; omega⟩
      · rw [List.mem_singleton] at hz
        subst hz
        refine ⟨hl y hy, fun gl => ?_⟩
        rcases List.mem_append.1 hy with hy | hy
        · have := (fax y hy x (by simp)).1
          have := gl.1
          unfold Rn.fin at *
          omega
        · simp at hy; subst hy; exact g gl
      · rcases List.mem_append.1 hy with hy | hy
        · obtain ⟨z, hz, e⟩ := h.head y hy; exact ⟨z, by simp [hz], e⟩
        · simp at hy; subst hy; exact ⟨y, by simp, rfl, rfl⟩
      · rcases List.mem_append.1 hy with hy | hy
        · obtain ⟨z, hz, e⟩ := h.tail y hy; exact ⟨z, by simp [hz], e⟩
        · simp at hy; subst hy; exact ⟨y, by simp, rfl, rfl⟩
/-- A row of runs one behind the other. -/
def Asc (c : List Rn) : Prop := (∀ x ∈ c, x.Ok) ∧ c.Pairwise (fun a b => a.fin ≤ b.lba)
theorem Jn.all : ∀ {d c l : List Rn}, Jn c l → Asc (c ++ d) → Jn (c ++ d) (joins l d)
  | [], c, l, h, _ => by rw [List.append_nil]; exact h
  | r :: d, c, l, h, ha => by
    have e : c ++ r :: d = (c ++ [r]) ++ d := by simp
    rw [e] at ha ⊢
    rw [joins_cons]
    refine Jn.all (h.snoc (ha.1 r (by simp)) (fun z hz => ?_)) ha
    exact (List.pairwise_append.1 (List.pairwise_append.1 ha.2).1).2.2 z hz r (by simp)
theorem Form.asc {m : List Rn} (h : Form m) : Asc m := ⟨h.1, h.2.imp (fun e => e.1)⟩
theorem Asc.app {a b : List Rn} (ha : Asc a) (hb : Asc b) (h : ∀ x ∈ a, ∀ y ∈ b, x.fin ≤ y.lba) : Asc (a ++ b) :=
  ⟨fun x hx => (List.mem_append.1 hx).elim (ha.1 x) (hb.1 x), List.pairwise_append.2 ⟨ha.2, hb.2, h⟩⟩

/-- The parts below, of which those that are empty are passed over. -/
theorem joins_below {lo : Int} : ∀ {o l : List Rn}, (∀ x ∈ o, x.Ok) → joins l (o.map (fun x => partR x 0 lo)) = joins l (belowL lo o)
  | [], _, _ => rfl
  | x :: o, l, h => by
    have hx := h x (by simp)
    have h0 := hx.1
    have h1 := hx.2.1
    rw [List.map_cons, joins_cons, belowL_cons, joins_app, joins_below (fun y hy => h y (by simp [hy]))]
    congr 1
    have e : partR x 0 lo = ⟨x.lba, min (lo - x.lba) x.len, x.phys⟩ := by
      unfold partR
      rw [show max 0 x.lba = x.lba by omega]
      congr 1
      · omega
      · omega
    rw [e]
    unfold below1 Rn.fin
    by_cases c1 : x.lba + x.len ≤ lo
    · rw [if_pos c1, show min (lo - x.lba) x.len = x.len by omega]; rfl
    · rw [if_neg c1]
      by_cases c2 : x.lba < lo
      · rw [if_pos c2, show min (lo - x.lba) x.len = lo - x.lba by omega]; rfl
      · rw [if_neg c2, joinL_empty (by simp only; omega)]; rfl
theorem joins_above {hi cap : Int} : ∀ {o l : List Rn}, (∀ x ∈ o, x.Ok ∧ x.fin ≤ cap) → joins l (o.map (fun x => partR x hi cap)) = joins l (aboveL hi o)
  | [], _, _ => rfl
  | x :: o, l, h => by
    have hx := (h x (by simp)).1
    have hf := (h x (by simp)).2
    have h1 := hx.2.1
    rw [List.map_cons, joins_cons, aboveL_cons, joins_app, joins_above (fun y hy => h y (by simp [hy]))]
    congr 1
    unfold Rn.fin at hf
    unfold above1 Rn.fin
    by_cases c1 : hi ≤ x.lba
    · have e : partR x hi cap = x := by
        unfold partR
        rw [show max hi x.lba = x.lba by omega]
        cases x
        simp only at *
        congr 1
        · omega
        · omega
      rw [if_pos c1, e]; rfl
    · rw [if_neg c1]
      have e : partR x hi cap = ⟨hi, x.lba + x.len - hi, x.phys + (hi - x.lba)⟩ := by
        unfold partR
        rw [show max hi x.lba = hi by omega]
        congr 1
        · omega
        · omega
      rw [e]
      by_cases c2 : hi < x.lba + x.len
      · rw [if_pos c2]; rfl
      · rw [if_neg c2, joinL_empty (by simp only; omega)]; rfl

/-- What stands ahead of the runs near a range, and behind them. -/
theorem near_split (lo hi : Int) (hl : lo ≤ hi) : ∀ {m : List Rn}, Form m → ∃ A B, m = A ++ nearL lo hi m ++ B ∧ (∀ x ∈ A, x.fin < lo) ∧ ∀ x ∈ B, hi < x.lba
  | [], _ => ⟨[], [], rfl, by simp, by simp⟩
  | x :: m, h => by
    obtain ⟨hx, hr, hm⟩ := Form.cons.1 h
    have h1 := hx.2.1
    obtain ⟨A, B, e, hA, hB⟩ := near_split lo hi hl hm
    by_cases c1 : x.fin < lo
    · have en : nearL lo hi (x :: m) = nearL lo hi m := by
        unfold nearL
        rw [List.filter_cons_of_neg (by simp; omega)]
      refine ⟨x :: A, B, by rw [en]; simp only [List.cons_append]; rw [← e], fun y hy => ?_, hB⟩
      rcases List.mem_cons.1 hy with rfl | hy
      · exact c1
      · exact hA y hy
    · by_cases c2 : x.lba ≤ hi
      · have en : nearL lo hi (x :: m) = x :: nearL lo hi m := by
          unfold nearL
          rw [List.filter_cons_of_pos (by simp; omega)]
        have hA0 : A = [] := by
          rcases A with _ | ⟨y, A⟩
          · rfl
          · have hy := hA y (by simp)
            have := (hr y (by rw [e]; simp)).1
            have := (hm.1 y (by rw [e]; simp)).2.1
            unfold Rn.fin at *
            omega
        subst hA0
        exact ⟨[], B, by rw [en]; simp only [List.nil_append, List.cons_append] at e ⊢; rw [← e], by simp, hB⟩
      · have en : nearL lo hi (x :: m) = [] := by
          unfold nearL
          rw [List.filter_cons_of_neg (by simp; omega), List.filter_eq_nil_iff]
          intro y hy
          have := (hr y hy).1
          unfold Rn.fin at *
          simp; omega
        refine ⟨[], x :: m, by rw [en]; rfl, by simp, fun y hy => ?_⟩
        rcases List.mem_cons.1 hy with rfl | hy
        · omega
        · have := (hr y hy).1
          unfold Rn.fin at *
          omega

theorem below_len (lo : Int) : ∀ o : List Rn, (belowL lo o).length ≤ o.length
  | [] => by simp [belowL]
  | x :: o => by
    have := below_len lo o
    rw [belowL_cons, List.length_append, List.length_cons]
    rcases one_below lo x with e | ⟨y, e⟩ <;> rw [e] <;> simp <;> omega
theorem above_len (hi : Int) : ∀ o : List Rn, (aboveL hi o).length ≤ o.length
  | [] => by simp [aboveL]
  | x :: o => by
    have := above_len hi o
    rw [aboveL_cons, List.length_append, List.length_cons]
    rcases one_above hi x with e | ⟨y, e⟩ <;> rw [e] <;> simp <;> omega
/-- What takes the place of the runs near a range. -/
def freshL (lo hi cap : Int) (ins : List Rn) (m : List Rn) : List Rn :=
  joins (joins (joins [] ((nearL lo hi m).map (fun x => partR x 0 lo))) ins) ((nearL lo hi m).map (fun x => partR x hi cap))

/-- What lay makes of it all. -/
structure Laid (lo hi cap : Int) (ins m : List Rn) (A F B : List Rn) : Prop where
  split : m = A ++ nearL lo hi m ++ B
  fresh : F = freshL lo hi cap ins m
  form : Form (A ++ F ++ B)
  page : ∀ s, page (A ++ F ++ B) s = if lo ≤ s ∧ s < hi then Tg.page ins s else Tg.page m s
  len : F.length ≤ 2 * m.length + ins.length
theorem laid {lo hi cap : Int} {ins m : List Rn} (h0 : 0 ≤ lo) (hl : lo < hi) (hm : Form m) (hc : ∀ x ∈ m, x.fin ≤ cap) (hi1 : Form ins) (hi2 : ∀ x ∈ ins, lo ≤ x.lba ∧ x.fin ≤ hi) :
    ∃ A F B, Laid lo hi cap ins m A F B := by
  obtain ⟨A, B, e, hA, hB⟩ := near_split lo hi (by omega) hm
  generalize ho : nearL lo hi m = o at e
  have hm' := hm
  rw [e] at hm'
  obtain ⟨fao, fb, faob⟩ := Form.app.1 hm'
  obtain ⟨fa, fo, fa_o⟩ := Form.app.1 fao
  have hc' : ∀ x ∈ o, x.Ok ∧ x.fin ≤ cap := fun x hx => ⟨fo.1 x hx, hc x (by rw [e]; simp [hx])⟩
  have hF : freshL lo hi cap ins m = joins [] (belowL lo o ++ ins ++ aboveL hi o) := by
    unfold freshL
    rw [ho, joins_below fo.1, joins_above hc', joins_app, joins_app]
  have hb := belowL_form lo fo
  have hv := aboveL_form (hi := hi) (by omega) fo
  have hasc : Asc (belowL lo o ++ ins ++ aboveL hi o) := by
    refine (hb.asc.app hi1.asc (fun x hx y hy => ?_)).app hv.asc (fun x hx y hy => ?_)
    · have := belowL_fin fo hx; have := (hi2 y hy).1; omega
    · have h2 := aboveL_lba (by omega) fo hy
      rcases List.mem_append.1 hx with hx | hx
      · have := belowL_fin fo hx; omega
      · have := (hi2 x hx).2; omega
  have J : Jn (belowL lo o ++ ins ++ aboveL hi o) (freshL lo hi cap ins m) := by
    rw [hF]
    have := Jn.nil.all (d := belowL lo o ++ ins ++ aboveL hi o) (by simpa using hasc)
    simpa using this
  refine ⟨A, _, B, by rw [ho]; exact e, rfl, ?_, fun s => ?_, ?_⟩
  · refine Form.app.2 ⟨Form.app.2 ⟨fa, J.form, fun x hx y hy => ?_⟩, fb, fun x hx y hy => ?_⟩
    · have hxl := hA x hx
      obtain ⟨z, hz, e1, e2⟩ := J.head y hy
      rcases List.mem_append.1 hz with hz | hz
      · rcases List.mem_append.1 hz with hz | hz
        · obtain ⟨u, hu, hz⟩ := belowL_mem hz
          obtain ⟨-, b1, b2, -⟩ := below1_mem (fo.1 u hu) hz
          have := fa_o x hx u hu
          refine ⟨by omega, fun g => this.2 ⟨by have := g.1; omega, by have := g.2; omega⟩⟩
        · have := (hi2 z hz).1
          exact ⟨by omega, fun g => by have := g.1; omega⟩
      · have := aboveL_lba (by omega) fo hz
        exact ⟨by omega, fun g => by have := g.1; omega⟩
    · have hyl := hB y hy
      rcases List.mem_append.1 hx with hx | hx
      · exact faob x (by simp [hx]) y hy
      · obtain ⟨z, hz, e1, e2⟩ := J.tail x hx
        rcases List.mem_append.1 hz with hz | hz
        · have : z.fin ≤ hi := by
            rcases List.mem_append.1 hz with hz | hz
            · have := belowL_fin fo hz; omega
            · exact (hi2 z hz).2
          exact ⟨by omega, fun g => by have := g.1; omega⟩
        · obtain ⟨u, hu, hz⟩ := aboveL_mem hz
          obtain ⟨-, b1, b2, -⟩ := above1_mem (by omega) (fo.1 u hu) hz
          have := faob u (by simp [hu]) y hy
          refine ⟨by omega, fun g => this.2 ⟨by have := g.1; omega, by have := g.2; omega⟩⟩
  · rw [page_app, page_app, J.page s, page_app, page_app, belowL_page, aboveL_page]
    have hp : page m s = ((page A s).or (page o s)).or (page B s) := by rw [e, page_app, page_app]
    have hIn : ¬ (lo ≤ s ∧ s < hi) → page ins s = none := fun h => page_none (fun x hx => by have := hi2 x hx; omega)
    by_cases c : lo ≤ s ∧ s < hi
    · rw [if_pos c, if_neg (show ¬ s < lo by omega), if_neg (show ¬ hi ≤ s by omega)]
      have h1 : page A s = none := page_none (fun x hx => by have := hA x hx; omega)
      have h2 : page B s = none := page_none (fun x hx => by have := hB x hx; omega)
      rw [h1, h2]; simp
    · rw [if_neg c, hIn c, hp]
      by_cases c2 : s < lo
      · rw [if_pos c2, if_neg (show ¬ hi ≤ s by omega)]; simp
      · rw [if_neg c2, if_pos (show hi ≤ s by omega)]; simp
  · have h1 := J.len
    have h2 := below_len lo o
    have h3 := above_len hi o
    have h4 : o.length ≤ m.length := by rw [e]; simp; omega
    simp at h1
    omega

/-- A range set, a range cleared: what lay makes is what the mathematics of maps says. -/
theorem Laid.set {r : Rn} {cap : Int} {m A F B : List Rn} (hr : r.Ok) (hm : Form m) (h : Laid r.lba r.fin cap [r] m A F B) : A ++ F ++ B = setL r m :=
  Form.one h.form (setL_form hr hm) (fun s => by
    rw [h.page, setL_page hr hm]
    by_cases c : r.lba ≤ s ∧ s < r.fin
    · rw [if_pos c, if_pos c, Tg.page, if_pos c]
    · rw [if_neg c, if_neg c])
theorem Laid.clear {lo hi cap : Int} {m A F B : List Rn} (h0 : 0 ≤ lo) (hl : lo < hi) (hm : Form m) (h : Laid lo hi cap [] m A F B) : A ++ F ++ B = clearL lo hi m :=
  Form.one h.form (clearL_form h0 hl hm) (fun s => by rw [h.page, clearL_page (by omega)]; rfl)

/-- Rising numbers all of which are among others are not more. -/
theorem rise_len : ∀ {b a : List Int}, a.Pairwise (· < ·) → b.Pairwise (· < ·) → (∀ x ∈ a, x ∈ b) → a.length ≤ b.length
  | [], a, _, _, h => by
    rcases a with _ | ⟨x, a⟩
    · simp
    · have := h x (by simp); cases this
  | y :: b, a, ha, hb, h => by
    rcases a with _ | ⟨x, a⟩
    · simp
    · obtain ⟨a1, a2⟩ := List.pairwise_cons.1 ha
      obtain ⟨b1, b2⟩ := List.pairwise_cons.1 hb
      by_cases e : x = y
      · subst e
        have := rise_len a2 b2 (fun z hz => by
          rcases List.mem_cons.1 (h z (by simp [hz])) with rfl | hz'
          · have := a1 z hz; omega
          · exact hz')
        simp; omega
      · have hx : x ∈ b := by rcases List.mem_cons.1 (h x (by simp)) with hx | hx; exact absurd hx e; exact hx
        have hxy := b1 x hx
        have := rise_len ha b2 (fun z hz => by
          rcases List.mem_cons.1 (h z hz) with rfl | hz'
          · rcases List.mem_cons.1 hz with rfl | hz
            · omega
            · have := a1 z hz; omega
          · exact hz')
        simp at this ⊢; omega
theorem up_len {a b : List Rn} (ha : Tr.Up a) (hb : Tr.Up b) (h : ∀ x ∈ a, ∃ y ∈ b, y.lba = x.lba) : a.length ≤ b.length := by
  have ha' : (a.map Rn.lba).Pairwise (fun x y => x < y) := List.pairwise_map.2 ha
  have hb' : (b.map Rn.lba).Pairwise (fun x y => x < y) := List.pairwise_map.2 hb
  have := rise_len ha' hb' (fun v hv => by
    obtain ⟨x, hx, rfl⟩ := List.mem_map.1 hv
    obtain ⟨y, hy, e⟩ := h x hx
    exact List.mem_map.2 ⟨y, hy, e⟩)
  simpa using this
end Tg
end Go.Proofs.Ytbdankhlbepjoaa
