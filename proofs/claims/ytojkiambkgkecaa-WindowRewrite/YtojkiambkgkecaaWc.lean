/-
  What the documents own answers lean on: blocks of memory, rows of triples, of numbers; runs in their form, entries, pieces folded; the flat map.
-/
import Derived.Test.YtojkiambkgkecaaWb
import Derived.WalkKit
import Derived.ProofKit
import Derived.OpenShut
import Derived.ShutString
import Derived.ChangeOld
import Derived.Below
import Derived.Deep.OwnRows
import Derived.Laws.IdiomCopy
import Derived.Lib.SlBytesConst
import Derived.Lib.ConvBytes
import Derived.Laws.BytesArg
import Derived.SizedLaws
import Derived.ArgAppend
import Derived.BigQuiet
import Derived.BigRegion
import Derived.Deep.MidRow
import Derived.ChangeKeysEq
import Derived.Laws.ResultCell
import Derived.Deep.RegionHeld3
import Derived.Deep.CutBlock
import Derived.Laws.AppendOwn
import Derived.Laws.OwnMore
import Derived.Deep.Slices
import Derived.Deep.Grids
namespace Go.Proofs.Ytojkiambkgkecaa
open Go.ChangeShapes Go.WideShapes Go.ChangeAt Go.RowKit
namespace Tg
set_option maxRecDepth 100000 in
theorem newF_no {w : World} {c n : Int} (h : c < 1 ∨ 512 < c ∨ n < 1 ∨ 512 < n) :
    Calls Try.prog 14 #[.int .i64 c, .int .i64 n] w fun e w' => e = .returned (.tuple #[.pointer none, .int .i64 1]) ∧ w' = w := by
  by_cases h1 : c < 1
  · clear h
    go_enter Try.func14, Try.ntmps14
    go_wp2_with fail
    go_ret2
    exact ⟨rfl, rfl⟩
  by_cases h2 : 512 < c
  · clear h
    go_enter Try.func14, Try.ntmps14
    go_wp2_with fail
    go_ret2
    exact ⟨rfl, rfl⟩
  by_cases h3 : n < 1
  · clear h
    go_enter Try.func14, Try.ntmps14
    go_wp2_with fail
    go_ret2
    exact ⟨rfl, rfl⟩
  have h4 : 512 < n := by omega
  clear h
  go_enter Try.func14, Try.ntmps14
  go_wp2_with fail
  go_ret2
  exact ⟨rfl, rfl⟩
theorem Fid.first {B : Nat → Prop} {wa wb : World} {q N C : Nat} {u : List Int} {e : Ending} {w' : World} (h : Fid B wb q N C u e w') (k : Keep (fun _ => False) wa wb) : Fid B wa q N C u e w' := by
  rcases h with ⟨h1, h2, h3, h4⟩ | ⟨h1, h2, h3⟩
  · exact Or.inl ⟨h1, h2, h3, (k.mono (fun _ _ e => e.elim)).trans h4⟩
  · exact Or.inr ⟨h1, h2, k.trans h3⟩
/-- What it answers is known ahead. -/
theorem Fid.code {B : Nat → Prop} {wa wb : World} {q N C : Nat} {u : List Int} {f : FuncId} {vs : Array Value} (h : Calls Try.prog f vs wb (Fid B wa q N C u)) :
    ∃ r : Int, Calls Try.prog f vs wb fun e w' => e = .returned (.int .i64 r) ∧ Fid B wa q N C u (.returned (.int .i64 r)) w' := by
  by_cases c : (refR u C).length ≤ N
  · refine ⟨0, h.mono ?_⟩
    rintro e w' (⟨h1, rfl, h3⟩ | ⟨h1, h2⟩)
    · exact ⟨rfl, Or.inl ⟨h1, rfl, h3⟩⟩
    · omega
  · refine ⟨5, h.mono ?_⟩
    rintro e w' (⟨h1, h2⟩ | ⟨h1, rfl, h3⟩)
    · omega
    · exact ⟨rfl, Or.inr ⟨h1, rfl, h3⟩⟩
/-- A row made since the map was is apart from it. -/
theorem Fm.apart {B : Nat → Prop} {wa w' : World} {q N C : Nat} {t u : List Int} {a' : Option Addr} {c' : Nat} (h : Fm B wa q N C t) (R : Ri wa w' a' c' u) : ∀ g, a' = some ⟨g, 0, none⟩ → B g ∧ g ≠ q ∧ g < w'.heap.size := fun g e => by
  have h1 := h.lt
  have h3 := R.block e
  exact ⟨h.up g h3.1, by omega, h3.2⟩
set_option maxRecDepth 100000 in
set_option maxHeartbeats 1000000 in
theorem fset {B : Nat → Prop} {wa : World} {q N C : Nat} {t : List Int} (h : Fm B wa q N C t) {L M : Nat} {phys : Int} (hM : 1 ≤ M) (hr : L + M ≤ C) (p1 : 0 ≤ phys) (p2 : phys ≤ 1048576) :
    Calls Try.prog 15 #[.pointer (some ⟨q, 0, none⟩), .int .i64 (L : Int), .int .i64 (M : Int), .int .i64 phys] wa (Fid B wa q N C (putN t L phys M)) := by
  have hrt := fright h (L : Int) (M : Int) (by have := h.cap2; omega)
  rw [okR_iff.2 ⟨by omega, by omega, by omega⟩] at hrt
  have htb := ftable h
  have hcap := h.cap2
  have htl := h.tl
  have d1 : ¬ phys < 0 := by omega
  have d2 : ¬ 1048576 < phys := by omega
  have hput : ∀ i, putN t L phys (i + 1) = (putN t L phys i).set (L + i) (phys + i) := fun i => by rw [putN, if_neg d1]
  have hfin : ∀ w1 a' c', Ri wa w1 a' c' (putN t L phys M) → Calls Try.prog 32 #[.pointer (some ⟨q, 0, none⟩), .slice a' C c'] w1 (Fid B wa q N C (putN t L phys M)) := fun w1 a' c' R =>
    (ftake (h.more R.keep) R.is (h.apart R) (by rw [putN_len]; exact htl) (putN_tab h.tab (by omega) (by omega) (by omega))).mono (fun _ _ hD => hD.first R.keep)
  have hpl : ∀ i, (putN t L phys i).length = C := fun i => by rw [putN_len]; exact htl
  have hcc : ∀ w1 a' c' i, Ri wa w1 a' c' (putN t L phys i) → C ≤ c' := fun w1 a' c' i R => by have := R.is.1; rw [hpl] at this; exact this
  have R0' : ∀ w1 a' c', Ri wa w1 a' c' t → Ri wa w1 a' c' (putN t L phys 0) := fun _ _ _ R => R
  clear h htl
  go_enter Try.func15, Try.ntmps15
  go_wp2_with (first | (go_at_call 30; refine hrt.mono ?_; rintro e w1 ⟨rfl, e1⟩; have e1 := e1.symm; subst e1) | (go_at_call 31; refine htb.mono ?_; rintro e w2 ⟨a', c', rfl, R2⟩))
  have R3 := R0' _ _ _ R2
  have hc' := hcc _ _ _ _ R3
  clear hrt htb R2 R0' hcc
  go_loopw [27] (fun v wx => ∃ i : Nat, i ≤ M ∧ v = .int .i64 (i : Int) ∧ Ri wa wx a' c' (putN t L phys i)) (fun v _ => M - (intOf v).toNat)
  case atStart => exact ⟨0, by omega, rfl, R3⟩
  case round =>
    clear R3
    obtain ⟨i, hi, rfl, R1⟩ := hrel
    by_cases hlt : i < M
    · obtain ⟨g, rfl, c0⟩ := R1.is.at (i := L + i) (by rw [hpl]; omega)
      have z0 := R1.fz (L + i)
      have R2 := R1.set (L + i) (phys + i)
      rw [← hput] at R2
      have di : (i : Int) < (M : Int) := by omega
      have dw := wrapI (x := (i : Int) + 1) (by omega) (by omega)
      have ds := wrapI (x := (L : Int) + i) (by omega) (by omega)
      have dsl : (L : Int) + i < (C : Int) := by omega
      have ds0 : ¬ (L : Int) + i < 0 := by omega
      have dp := wrapI (x := phys + i) (by omega) (by omega)
      have hlt' : Hid (i < M) := hlt
      clear hlt R1 hput hfin hpl
      go_wp2_with fail
      go_roundw
      case rel => exact ⟨i + 1, hlt', by go_num, R2⟩
      case measure => have : i < M := hlt'; simp [intOf]; omega
    · have di : ¬ (i : Int) < (M : Int) := by omega
      have ei : i = M := by omega
      rw [ei] at R1
      obtain ⟨r, hT⟩ := Fid.code (hfin _ _ _ R1)
      clear hlt ei hput hfin hpl R1
      go_wp2_with (go_at_call 32; refine hT.mono ?_; rintro e w3 ⟨rfl, hD⟩)
      go_ret
      exact hD
set_option maxRecDepth 100000 in
theorem fset_no {B : Nat → Prop} {wa : World} {q N C : Nat} {t : List Int} (h : Fm B wa q N C t) {lba n phys : Int} (hl : lba ≤ 9223372036854775807) (hno : okR (C : Int) lba n = false ∨ phys < 0 ∨ 1048576 < phys) :
    Calls Try.prog 15 #[.pointer (some ⟨q, 0, none⟩), .int .i64 lba, .int .i64 n, .int .i64 phys] wa fun e w' => e = .returned (.int .i64 1) ∧ w' = wa := by
  have hrt := fright h lba n hl
  clear h
  cases ho : okR (C : Int) lba n with
  | false =>
    rw [ho] at hrt
    clear hno
    go_enter Try.func15, Try.ntmps15
    go_wp2_with (go_at_call 30; refine hrt.mono ?_; rintro e w1 ⟨rfl, e1⟩; have e1 := e1.symm; subst e1)
    go_ret
    exact ⟨rfl, rfl⟩
  | true =>
    rw [ho] at hrt
    have hp := hno.resolve_left (by rw [ho]; simp)
    by_cases c1 : phys < 0
    · clear hno hp
      go_enter Try.func15, Try.ntmps15
      go_wp2_with (go_at_call 30; refine hrt.mono ?_; rintro e w1 ⟨rfl, e1⟩; have e1 := e1.symm; subst e1)
      go_ret
      exact ⟨rfl, rfl⟩
    · have c2 : 1048576 < phys := by omega
      clear hno hp
      go_enter Try.func15, Try.ntmps15
      go_wp2_with (go_at_call 30; refine hrt.mono ?_; rintro e w1 ⟨rfl, e1⟩; have e1 := e1.symm; subst e1)
      go_ret
      exact ⟨rfl, rfl⟩
/-- Is a piece passed over? -/
abbrev Skip (x : Rn) : Prop := x.phys < 0 ∨ 1048576 < x.phys ∨ x.len < 1 ∨ x.lba < 0 ∨ 512 < x.lba
/-- How many sectors of it lie below 512. -/
def clipN (x : Rn) : Nat := (min x.len (512 - x.lba)).toNat
/-- A piece over entries. -/
def fold1 (t : List Int) (x : Rn) : List Int := if Skip x then t else putN t x.lba.toNat x.phys (clipN x)
/-- Pieces over entries, one after the other. -/
def foldT (l : List Rn) (t : List Int) : List Int := l.foldl fold1 t
theorem foldT_nil (t : List Int) : foldT [] t = t := rfl
theorem foldT_cons (x : Rn) (l : List Rn) (t : List Int) : foldT (x :: l) t = foldT l (fold1 t x) := rfl
theorem foldT_app (a b : List Rn) (t : List Int) : foldT (a ++ b) t = foldT b (foldT a t) := List.foldl_append
theorem fold1_len (t : List Int) (x : Rn) : (fold1 t x).length = t.length := by
  unfold fold1
  split
  · rfl
  · exact putN_len _ _ _ _
theorem foldT_len : ∀ (l : List Rn) (t : List Int), (foldT l t).length = t.length
  | [], _ => rfl
  | x :: l, t => by rw [foldT_cons, foldT_len l, fold1_len]
theorem clip_in {x : Rn} (h : ¬ Skip x) : x.lba.toNat + clipN x ≤ 512 := by unfold Skip at h; unfold clipN; omega
/-- What an entry may be. -/
def Ent (t : List Int) : Prop := ∀ i, -1 ≤ t.getD i (-1) ∧ t.getD i (-1) ≤ 1049088
theorem fold1_ent {t : List Int} (ht : t.length = 512) (h : Ent t) (x : Rn) : Ent (fold1 t x) := by
  unfold fold1
  split
  · exact h
  · next c =>
    intro i
    have := h i
    have h1 := clip_in c
    rw [putN_get t _ _ _ (by omega) i]
    unfold Skip at c
    split
    · split <;> omega
    · exact this
theorem foldT_ent : ∀ (l : List Rn) {t : List Int}, t.length = 512 → Ent t → Ent (foldT l t)
  | [], _, _, h => h
  | x :: l, t, ht, h => by rw [foldT_cons]; exact foldT_ent l (by rw [fold1_len]; exact ht) (fold1_ent ht h x)
/-- Does a piece, as far as it lies below 512, hold a sector? -/
theorem fold1_entry {t : List Int} (ht : t.length = 512) {x : Rn} (hx : ¬ Skip x) (s : Int) : entry (fold1 t x) s = if x.lba ≤ s ∧ s < x.fin ∧ s < 512 then some (x.phys + (s - x.lba)) else entry t s := by
  have h1 := clip_in hx
  unfold fold1
  rw [if_neg hx, putN_entry t _ _ _ (by omega) s]
  unfold Skip at hx
  have e1 : ((x.lba.toNat : Nat) : Int) = x.lba := by omega
  have e2 : ((clipN x : Nat) : Int) = min x.len (512 - x.lba) := by unfold clipN; omega
  rw [e1, e2, if_neg (show ¬ x.phys < 0 by omega)]
  by_cases c : x.lba ≤ s ∧ s < x.fin ∧ s < 512
  · rw [if_pos (by unfold Rn.fin at c; omega), if_pos c]
  · rw [if_neg (by unfold Rn.fin at c; omega), if_neg c]
/-- Entries that tell the same are the same. -/
theorem ent_ext {t u : List Int} (hl : t.length = u.length) (ht : Ent t) (hu : Ent u) (h : ∀ s, entry t s = entry u s) : t = u := by
  refine List.ext_getElem? (fun i => ?_)
  by_cases c : i < t.length
  · have e := h (i : Int)
    rw [entry_nat c, entry_nat (hl ▸ c)] at e
    have h1 := ht i
    have h2 := hu i
    have g1 : t[i]? = some (t.getD i (-1)) := by simp [c]
    have g2 : u[i]? = some (u.getD i (-1)) := by simp [hl ▸ c]
    rw [g1, g2]
    generalize t.getD i (-1) = X at *
    generalize u.getD i (-1) = Y at *
    congr 1
    by_cases c1 : X < 0
    · by_cases c2 : Y < 0
      · omega
      · rw [if_pos c1, if_neg c2] at e; cases e
    · by_cases c2 : Y < 0
      · rw [if_neg c1, if_pos c2] at e; cases e
      · rw [if_neg c1, if_neg c2] at e; injection e
  · rw [List.getElem?_eq_none (by omega), List.getElem?_eq_none (by omega)]
/-- Runs in their form over entries. -/
theorem form_fold : ∀ {m : List Rn} {t : List Int}, t.length = 512 → Form m → (∀ x ∈ m, x.fin ≤ 512 ∧ x.phys ≤ 1048576) → ∀ s, entry (foldT m t) s = (page m s).or (entry t s)
  | [], t, _, _, _, s => by simp [foldT_nil, page]
  | x :: m, t, ht, hf, hb, s => by
    obtain ⟨hx, -, hm⟩ := Form.cons.1 hf
    have hx1 := hb x (by simp)
    have hsk : ¬ Skip x := by unfold Skip; unfold Rn.Ok at hx; unfold Rn.fin at hx1; omega
    rw [foldT_cons, form_fold (by rw [fold1_len]; exact ht) hm (fun y hy => hb y (by simp [hy])) s, fold1_entry ht hsk s, page]
    by_cases c : x.lba ≤ s ∧ s < x.fin
    · rw [if_pos ⟨c.1, c.2, by omega⟩, if_pos c, hf.page_low c.2]; rfl
    · rw [if_neg (fun h => c ⟨h.1, h.2.1⟩), if_neg c]
/-- A map that maps nothing. -/
def blank : List Int := List.replicate 512 (-1)
theorem blank_get (i : Nat) : blank.getD i (-1) = -1 := by
  unfold blank
  simp only [List.getD_eq_getElem?_getD, List.getElem?_replicate]
  split <;> rfl
theorem blank_ent : Ent blank := fun i => by rw [blank_get]; omega
theorem blank_len : blank.length = 512 := List.length_replicate
theorem blank_entry (s : Int) : entry blank s = none := by
  unfold entry
  rw [blank_get, if_neg (by omega)]
/-- What pieces fold to. -/
def foldR (l : List Rn) : List Rn := refR (foldT l blank) 512
theorem foldR_of (l : List Rn) : Of (foldT l blank) (foldR l) := by
  have := refR_of (foldT l blank)
  rwa [foldT_len, blank_len] at this
theorem foldR_form (l : List Rn) : Form (foldR l) := (foldR_of l).1
theorem foldR_fin {l : List Rn} {x : Rn} (hx : x ∈ foldR l) : x.fin ≤ 512 := by
  have := (foldR_of l).fin hx
  rwa [foldT_len, blank_len] at this
/-- Runs in their form fold to themselves. -/
theorem fold_self {m : List Rn} (hf : Form m) (hb : ∀ x ∈ m, x.fin ≤ 512 ∧ x.phys ≤ 1048576) : foldR m = m := by
  refine Form.one (foldR_form m) hf (fun s => ?_)
  rw [(foldR_of m).2 s, form_fold blank_len hf hb s, blank_entry]
  simp
/-- The entries of what pieces fold to are theirs. -/
theorem foldT_runs {l : List Rn} (hb : ∀ x ∈ foldR l, x.phys ≤ 1048576) : foldT (foldR l) blank = foldT l blank := by
  refine ent_ext (by rw [foldT_len, foldT_len]) (foldT_ent _ blank_len blank_ent) (foldT_ent _ blank_len blank_ent) (fun s => ?_)
  rw [form_fold blank_len (foldR_form l) (fun x hx => ⟨foldR_fin hx, hb x hx⟩) s, blank_entry, (foldR_of l).2 s]
  simp
/-- A part may be folded first. -/
theorem fold_part {a b : List Rn} (hb : ∀ x ∈ foldR a, x.phys ≤ 1048576) : foldR (foldR a ++ b) = foldR (a ++ b) := by
  unfold foldR
  rw [foldT_app, foldT_app, show foldT (refR (foldT a blank) 512) blank = foldT a blank from foldT_runs hb]
/-- May a change be made of so many sectors? -/
abbrev CanDo (C : Nat) (x : Rn) : Prop := 1 ≤ x.len ∧ 0 ≤ x.lba ∧ x.lba + x.len ≤ (C : Int) ∧ (x.phys = -1 ∨ 0 ≤ x.phys ∧ x.phys ≤ 1048576)
/-- The entries behind one change (a page of -1 clears), and the code. -/
def stepL (N : Nat) (t : List Int) (x : Rn) : List Int × Int :=
  if CanDo t.length x then (if (refR (putN t x.lba.toNat x.phys x.len.toNat) t.length).length ≤ N then (putN t x.lba.toNat x.phys x.len.toNat, 0) else (t, 5)) else (t, 1)
/-- A change that makes runs in their form, not too many: it is done. -/
theorem step_of {N C : Nat} {t u : List Int} {x : Rn} {m : List Rn} (hc : CanDo C x) (htl : t.length = C) (hu : u = putN t x.lba.toNat x.phys x.len.toNat) (ho : Of u m) (hN : m.length ≤ N) : stepL N t x = (u, 0) := by
  have hul : u.length = C := by rw [hu, putN_len]; exact htl
  have e := ho.runs
  rw [hul] at e
  unfold stepL
  rw [htl, if_pos hc, ← hu, ← e, if_pos hN]
theorem putN_ent {t : List Int} (h : Ent t) {lba n : Nat} (hr : lba + n ≤ t.length) (hc : t.length ≤ 512) {phys : Int} (hp : phys ≤ 1048576) : Ent (putN t lba phys n) := fun i => by
  have := h i
  rw [putN_get t _ _ _ hr i]
  split
  · split <;> omega
  · exact this
/-- A row of triples, wherever it begins. -/
def Rz (w : World) (a : Option Addr) (cap : Nat) (l : List Rn) : Prop :=
  l.length ≤ cap ∧ cap ≤ 9223372036854775807 ∧ (l = [] ∨ ∃ g o, a = some ⟨g, o, none⟩ ∧ ∀ i x, l[i]? = some x → w.cell? ⟨g, o + i * 3, none⟩ = some (.int .i64 x.lba) ∧ w.cell? ⟨g, o + i * 3 + 1, none⟩ = some (.int .i64 x.len) ∧ w.cell? ⟨g, o + i * 3 + 2, none⟩ = some (.int .i64 x.phys))
/-- Each number fits. -/
def Fits (l : List Rn) : Prop := ∀ x ∈ l, (-9223372036854775808 ≤ x.lba ∧ x.lba ≤ 9223372036854775807) ∧ (-9223372036854775808 ≤ x.len ∧ x.len ≤ 9223372036854775807) ∧ (-9223372036854775808 ≤ x.phys ∧ x.phys ≤ 9223372036854775807)
theorem Rz.keep {S : Nat → Prop} {w w' : World} {a : Option Addr} {cap : Nat} {l : List Rn} (h : Rz w a cap l) (k : Keep S w w') (hs : ∀ g o, a = some ⟨g, o, none⟩ → l ≠ [] → ¬ S g) : Rz w' a cap l := by
  obtain ⟨h1, h2, h3⟩ := h
  by_cases hl : l = []
  · exact ⟨h1, h2, Or.inl hl⟩
  refine ⟨h1, h2, h3.imp id ?_⟩
  rintro ⟨g, o, rfl, hc⟩
  refine ⟨g, o, rfl, fun i x hx => ?_⟩
  obtain ⟨c0, c1, c2⟩ := hc i x hx
  have hb := World.block_lt_of_cell? w _ c0
  have hk := k.block g hb (hs g o rfl hl)
  rw [← c0, ← c1, ← c2]
  exact ⟨World.cell?_of_block (w := w) (a := ⟨g, o + i * 3, none⟩) hk, World.cell?_of_block (w := w) (a := ⟨g, o + i * 3 + 1, none⟩) hk, World.cell?_of_block (w := w) (a := ⟨g, o + i * 3 + 2, none⟩) hk⟩
theorem Rz.more {w w' : World} {a : Option Addr} {cap : Nat} {l : List Rn} (h : Rz w a cap l) (k : Keep (fun _ => False) w w') : Rz w' a cap l := h.keep k (fun _ _ _ _ e => e)
theorem Rz.at {w : World} {a : Option Addr} {cap : Nat} {l : List Rn} (h : Rz w a cap l) {i : Nat} {x : Rn} (hx : l[i]? = some x) :
    ∃ g o, a = some ⟨g, o, none⟩ ∧ w.cell? ⟨g, o + i * 3, none⟩ = some (.int .i64 x.lba) ∧ w.cell? ⟨g, o + i * 3 + 1, none⟩ = some (.int .i64 x.len) ∧ w.cell? ⟨g, o + i * 3 + 2, none⟩ = some (.int .i64 x.phys) := by
  rcases h.2.2 with rfl | ⟨g, o, rfl, hc⟩
  · simp at hx
  · exact ⟨g, o, rfl, hc i x hx⟩
theorem Rs.rz {w : World} {a : Option Addr} {cap : Nat} {m : List Rn} (h : Rs w a cap m) : Rz w a cap m := by
  refine ⟨h.1, h.2.1, ?_⟩
  by_cases c : m = []
  · exact Or.inl c
  · right
    obtain ⟨g, hg, -⟩ := (h.2.2).resolve_left c
    refine ⟨g, 0, hg, fun i x hx => ?_⟩
    obtain ⟨g', hg', h1, h2, h3⟩ := h.at hx
    rw [hg] at hg'
    injection hg' with hg'; injection hg' with hg'; subst hg'
    rw [Nat.zero_add]
    exact ⟨h1, h2, h3⟩
theorem Rz.block {w : World} {g o cap : Nat} {l : List Rn} (h : Rz w (some ⟨g, o, none⟩) cap l) (hl : l ≠ []) : g < w.heap.size := by
  obtain ⟨x, hx⟩ : ∃ x, l[0]? = some x := ⟨_, List.getElem?_eq_getElem (List.length_pos_iff.2 hl)⟩
  obtain ⟨g', o', e, h1, -⟩ := h.at hx
  injection e with e; injection e with e1 e2; subst e1
  exact World.block_lt_of_cell? w _ h1
theorem take_more {α : Type} {l : List α} {i : Nat} {x : α} (h : l[i]? = some x) : l.take (i + 1) = l.take i ++ [x] := by
  rw [List.take_add_one, h]
  rfl
/-- May a run, by itself, be a map's? -/
def inB (x : Rn) : Bool := decide (0 ≤ x.lba) && decide (x.lba ≤ 1073741824) && decide (1 ≤ x.len) && decide (x.len ≤ 1073741824) && decide (0 ≤ x.phys) && decide (x.phys ≤ 1073741824)
theorem inB_iff {x : Rn} : inB x = true ↔ 0 ≤ x.lba ∧ x.lba ≤ 1073741824 ∧ 1 ≤ x.len ∧ x.len ≤ 1073741824 ∧ 0 ≤ x.phys ∧ x.phys ≤ 1073741824 := by
  unfold inB
  simp [and_assoc]
/-- May a run stand next behind another one? -/
def folB (a x : Rn) : Bool := if x.lba - a.lba = a.len then x.phys - a.phys != a.len else decide (a.len < x.lba - a.lba)
/-- Are runs in their form, behind one that may stand ahead? -/
def formP : Option Rn → List Rn → Bool
  | _, [] => true
  | none, x :: l => inB x && formP (some x) l
  | some a, x :: l => inB x && (folB a x && formP (some x) l)
theorem form_true : ∀ {m : List Rn} {p : Option Rn}, Form m → (∀ x ∈ m, inB x = true) → (∀ a, p = some a → ∀ x ∈ m, a.fin ≤ x.lba ∧ ¬ Glued a x) → formP p m = true
  | [], p, _, _, _ => by cases p <;> rfl
  | x :: m, p, hf, hb, hp => by
    obtain ⟨h1, h2, h3⟩ := Form.cons.1 hf
    have ih := form_true (p := some x) h3 (fun y hy => hb y (by simp [hy])) (fun a e y hy => by injection e with e; subst e; exact h2 y hy)
    cases p with
    | none => simp [formP, hb x (by simp), ih]
    | some a =>
      have h4 := hp a rfl x (by simp)
      have : folB a x = true := by
        unfold folB
        unfold Glued Rn.fin at h4
        split
        · simp; omega
        · simp; omega
      simp [formP, hb x (by simp), ih, this]
theorem inside_any (w : World) (n least : Int) : Calls Try.prog 41 #[.int .i64 n, .int .i64 least] w fun e w' => e = .returned (.bool (decide (least ≤ n) && decide (n ≤ 1073741824))) ∧ w' = w := by
  by_cases c : least ≤ n
  · go_enter Try.func41, Try.ntmps41
    go_wp2_with fail
    go_ret
    exact ⟨by simp [c], rfl⟩
  · go_enter Try.func41, Try.ntmps41
    go_wp2_with fail
    go_ret
    exact ⟨by simp; intros; omega, rfl⟩
/-- The run ahead of a place. -/
def prev (l : List Rn) : Nat → Option Rn
  | 0 => none
  | i + 1 => l[i]?
theorem prev_succ (l : List Rn) (i : Nat) : prev l (i + 1) = l[i]? := rfl
theorem drop_at {l : List Rn} {i : Nat} {x : Rn} (h : l[i]? = some x) : l.drop i = x :: l.drop (i + 1) := by
  obtain ⟨hi, e⟩ := List.getElem?_eq_some_iff.1 h
  rw [← List.getElem_cons_drop hi, e]
/-- What one place asks. -/
def okAt (p : Option Rn) (x : Rn) : Bool := inB x && (match p with | none => true | some a => folB a x)
theorem formP_at (p : Option Rn) (x : Rn) (l : List Rn) : formP p (x :: l) = (okAt p x && formP (some x) l) := by
  unfold okAt
  cases p <;> simp [formP, Bool.and_assoc]
set_option maxRecDepth 100000 in
set_option maxHeartbeats 2000000 in
theorem form9 {w : World} {a : Option Addr} {cap : Nat} {l : List Rn} (hR : Rz w a cap l) (hl : l.length ≤ 9223372036854775807) :
    Calls Try.prog 36 #[.slice a l.length cap] w fun e w' => e = .returned (.bool (formP none l)) ∧ Keep (fun _ => False) w w' := by
  have hlc := hR.1
  have hlc2 := hR.2.1
  have h0 : formP none l = formP (prev l 0) (l.drop 0) := by rw [List.drop_zero]; rfl
  go_enter Try.func36, Try.ntmps36
  go_wp2_with fail
  go_loopw [3] (fun v wx => ∃ i : Nat, i ≤ l.length ∧ v = .int .i64 (i : Int) ∧ Hid (formP none l = formP (prev l i) (l.drop i)) ∧ Hid (∀ y, prev l i = some y → inB y = true) ∧ Keep (fun _ => False) w wx) (fun v _ => l.length - (intOf v).toNat)
  case atStart => exact ⟨0, by omega, rfl, h0, (fun y e => by cases e), Keep.refl _ _⟩
  case round =>
    clear h0
    obtain ⟨i, hi, rfl, hI, hP, k1⟩ := hrel
    by_cases hlt : i < l.length
    · obtain ⟨x, hx⟩ := get_rn hlt
      have Rx := hR.more k1
      obtain ⟨g, o, rfl, c0, c1, c2⟩ := Rx.at hx
      have hstep : formP none l = (okAt (prev l i) x && formP (some x) (l.drop (i + 1))) := by
        rw [show formP none l = formP (prev l i) (l.drop i) from hI, drop_at hx, formP_at]
      have hP2 := show ∀ y, prev l i = some y → inB y = true from hP
      have di : (i : Int) < (l.length : Int) := by omega
      have dw := wrapI (x := (i : Int) + 1) (by omega) (by omega)
      have hlt' : Hid (i < l.length) := hlt
      have hx' : Hid (l[i]? = some x) := hx
      have i0 := fun w => inside_any w x.lba 0
      have i1 := fun w => inside_any w x.phys 0
      have i2 := fun w => inside_any w x.len 1
      clear hI hP hlt hx
      by_cases b0 : 0 ≤ x.lba ∧ x.lba ≤ 1073741824
      · rw [show (decide (0 ≤ x.lba) && decide (x.lba ≤ 1073741824)) = true by simp [b0.1, b0.2]] at i0
        by_cases b1 : 0 ≤ x.phys ∧ x.phys ≤ 1073741824
        · rw [show (decide (0 ≤ x.phys) && decide (x.phys ≤ 1073741824)) = true by simp [b1.1, b1.2]] at i1
          by_cases b2 : 1 ≤ x.len ∧ x.len ≤ 1073741824
          · rw [show (decide (1 ≤ x.len) && decide (x.len ≤ 1073741824)) = true by simp [b2.1, b2.2]] at i2
            have hb : inB x = true := inB_iff.2 ⟨b0.1, b0.2, b2.1, b2.2, b1.1, b1.2⟩
            have hb' : Hid (inB x = true) := hb
            go_wp2_with fail
            refine (i0 _).mono ?_
            rintro e wz ⟨rfl, e1⟩; have e1 := e1.symm; subst e1
            go_wp2_with fail
            refine (i1 _).mono ?_
            rintro e wz ⟨rfl, e1⟩; have e1 := e1.symm; subst e1
            go_wp2_with fail
            refine (i2 _).mono ?_
            rintro e wz ⟨rfl, e1⟩; have e1 := e1.symm; subst e1
            cases i with
            | zero =>
              have hF : Hid (formP none l = formP (some x) (l.drop (0 + 1))) := by
                show formP none l = _
                rw [hstep]; unfold okAt prev; rw [hb]; rfl
              clear hstep hP2 hR Rx hb b0 b1 b2
              go_wp2_with fail
              go_roundw
              case rel => exact ⟨0 + 1, hlt', by go_num, by show formP none l = _; rw [show formP none l = formP (some x) (l.drop (0 + 1)) from hF, prev_succ, show l[0]? = some x from hx'], (fun z e => by rw [prev_succ, show l[0]? = some x from hx'] at e; injection e with e; subst e; exact hb'), k1⟩
              case measure => have : 0 < l.length := hlt'; simp [intOf]; omega
            | succ j =>
              obtain ⟨y, hy⟩ := get_rn (m := l) (i := j) (by have : j + 1 < l.length := hlt'; omega)
              have hyb := inB_iff.1 (hP2 y hy)
              obtain ⟨g', o', eg, h1, h2, h3⟩ := Rx.at hy
              injection eg with eg; injection eg with eg1 eg2; subst eg1; subst eg2
              have hst2 : formP none l = (folB y x && formP (some x) (l.drop (j + 1 + 1))) := by rw [hstep]; unfold okAt; rw [prev_succ, hb, hy]; simp
              have dj1 : IntKind.i64.wrap (((j + 1 : Nat) : Int) - 1) = (j : Int) := by rw [wrapI (by omega) (by omega)]; omega
              have dj4 := wrapI (x := (j : Int)) (by omega) (by omega)
              have dj3 : (j : Int) < (l.length : Int) := by omega
              have dj5 : (((j + 1 : Nat) : Int) == 0) = false := by simp; omega
              have da := wrapI (x := y.lba + y.len) (by omega) (by omega)
              have db := wrapI (x := y.phys + y.len) (by omega) (by omega)
              have K2 : Keep (fun _ => False) wr (wr.alloc (.cells #[.int .i64 y.lba, .int .i64 y.len, .int .i64 y.phys] 39)) := (Keep.refl _ _).alloc _
              have L1 : Blk (wr.alloc (.cells #[.int .i64 y.lba, .int .i64 y.len, .int .i64 y.phys] 39)) wr.heap.size 3 (rcell y) := blk_alloc wr _ 39 3 _ (fun i hi => by
                have : i = 0 ∨ i = 1 ∨ i = 2 := by omega
                rcases this with rfl | rfl | rfl <;> rfl)
              have R2 := Rx.more K2
              clear hstep hP2 hR Rx i0 i1 i2
              go_upto_region 8 with fail
              generalize wr.alloc (.cells #[.int .i64 y.lba, .int .i64 y.len, .int .i64 y.phys] 39) = w2 at K2 L1 R2 ⊢
              generalize wr.heap.size = G at L1 ⊢
              have k2 := k1.trans K2
              obtain ⟨g2, o2, eg, u0, u1, u2⟩ := R2.at (show l[j + 1]? = some x from hx')
              injection eg with eg; injection eg with eg1 eg2; subst eg1; subst eg2
              have v0 : w2.cell? ⟨G, 0, none⟩ = some (.int .i64 y.lba) := (L1 0 (by omega)).1
              have v1 : w2.cell? ⟨G, 1, none⟩ = some (.int .i64 y.len) := (L1 1 (by omega)).1
              have v2 : w2.cell? ⟨G, 2, none⟩ = some (.int .i64 y.phys) := (L1 2 (by omega)).1
              clear K2 k1 R2 L1
              by_cases t0 : x.lba < y.lba + y.len
              · have hF : Hid (formP none l = false) := by
                  show formP none l = false
                  have : folB y x = false := by
                    unfold folB
                    split
                    · omega
                    · simp; omega
                  rw [hst2, this]; rfl
                have tb : decide (x.lba < y.lba + y.len) = true := decide_eq_true t0
                clear hst2 hyb hb b0 b1 b2
                go_quiet (fail)
                go_wp2_with fail
                go_ret
                exact ⟨by rw [show formP none l = false from hF]; rfl, k2.drewN _⟩
              · have tb : decide (x.lba < y.lba + y.len) = false := decide_eq_false t0
                by_cases t1 : y.lba + y.len = x.lba
                · have tb1 : (y.lba + y.len == x.lba) = true := by simp [t1]
                  by_cases t2 : y.phys + y.len = x.phys
                  · have tb2 : (y.phys + y.len == x.phys) = true := by simp [t2]
                    have hF : Hid (formP none l = false) := by
                      show formP none l = false
                      have : folB y x = false := by
                        unfold folB
                        rw [if_pos (by omega)]
                        simp; omega
                      rw [hst2, this]; rfl
                    clear hst2 t1 t2 hyb hb b0 b1 b2
                    go_quiet (fail)
                    go_wp2_with fail
                    go_ret
                    exact ⟨by rw [show formP none l = false from hF]; rfl, k2.drewN _⟩
                  · have tb2 : (y.phys + y.len == x.phys) = false := by simp [t2]
                    have hF : Hid (formP none l = formP (some x) (l.drop (j + 1 + 1))) := by
                      show formP none l = _
                      have : folB y x = true := by
                        unfold folB
                        rw [if_pos (by omega)]
                        simp; omega
                      rw [hst2, this]; rfl
                    clear hst2 t1 t2 hyb hb b0 b1 b2
                    go_quiet (fail)
                    go_wp2_with fail
                    go_roundw
                    case rel => exact ⟨j + 1 + 1, hlt', by go_num, by show formP none l = _; rw [show formP none l = formP (some x) (l.drop (j + 1 + 1)) from hF, prev_succ, show l[j + 1]? = some x from hx'], (fun z e => by rw [prev_succ, show l[j + 1]? = some x from hx'] at e; injection e with e; subst e; exact hb'), k2.drewN _⟩
                    case measure => have : j + 1 < l.length := hlt'; simp [intOf]; omega
                · have tb1 : (y.lba + y.len == x.lba) = false := by simp [t1]
                  have hF : Hid (formP none l = formP (some x) (l.drop (j + 1 + 1))) := by
                    show formP none l = _
                    have : folB y x = true := by
                      unfold folB
                      rw [if_neg (by omega)]
                      simp; omega
                    rw [hst2, this]; rfl
                  clear hst2 t1 hyb hb b0 b1 b2
                  go_quiet (fail)
                  go_wp2_with fail
                  go_roundw
                  case rel => exact ⟨j + 1 + 1, hlt', by go_num, by show formP none l = _; rw [show formP none l = formP (some x) (l.drop (j + 1 + 1)) from hF, prev_succ, show l[j + 1]? = some x from hx'], (fun z e => by rw [prev_succ, show l[j + 1]? = some x from hx'] at e; injection e with e; subst e; exact hb'), k2.drewN _⟩
                  case measure => have : j + 1 < l.length := hlt'; simp [intOf]; omega
          · rw [show (decide (1 ≤ x.len) && decide (x.len ≤ 1073741824)) = false by simp; omega] at i2
            have hF : Hid (formP none l = false) := by
              show formP none l = false
              have : inB x = false := by rw [Bool.eq_false_iff]; intro e; rw [inB_iff] at e; omega
              rw [hstep]; unfold okAt; rw [this]; rfl
            clear hstep hP2 b0 b1 b2 hR Rx
            go_wp2_with fail
            refine (i0 _).mono ?_
            rintro e wz ⟨rfl, e1⟩; have e1 := e1.symm; subst e1
            go_wp2_with fail
            refine (i1 _).mono ?_
            rintro e wz ⟨rfl, e1⟩; have e1 := e1.symm; subst e1
            go_wp2_with fail
            refine (i2 _).mono ?_
            rintro e wz ⟨rfl, e1⟩; have e1 := e1.symm; subst e1
            go_wp2_with fail
            go_ret
            exact ⟨by rw [show formP none l = false from hF]; rfl, k1⟩
        · rw [show (decide (0 ≤ x.phys) && decide (x.phys ≤ 1073741824)) = false by simp; omega] at i1
          have hF : Hid (formP none l = false) := by
            show formP none l = false
            have : inB x = false := by rw [Bool.eq_false_iff]; intro e; rw [inB_iff] at e; omega
            rw [hstep]; unfold okAt; rw [this]; rfl
          clear hstep hP2 b0 b1 hR Rx
          go_wp2_with fail
          refine (i0 _).mono ?_
          rintro e wz ⟨rfl, e1⟩; have e1 := e1.symm; subst e1
          go_wp2_with fail
          refine (i1 _).mono ?_
          rintro e wz ⟨rfl, e1⟩; have e1 := e1.symm; subst e1
          go_wp2_with fail
          go_ret
          exact ⟨by rw [show formP none l = false from hF]; rfl, k1⟩
      · rw [show (decide (0 ≤ x.lba) && decide (x.lba ≤ 1073741824)) = false by simp; omega] at i0
        have hF : Hid (formP none l = false) := by
          show formP none l = false
          have : inB x = false := by rw [Bool.eq_false_iff]; intro e; rw [inB_iff] at e; omega
          rw [hstep]; unfold okAt; rw [this]; rfl
        clear hstep hP2 b0 hR Rx
        go_wp2_with fail
        refine (i0 _).mono ?_
        rintro e wz ⟨rfl, e1⟩; have e1 := e1.symm; subst e1
        go_wp2_with fail
        go_ret
        exact ⟨by rw [show formP none l = false from hF]; rfl, k1⟩
    · have di : ¬ (i : Int) < (l.length : Int) := by omega
      have he : Hid (formP none l = true) := by
        show formP none l = true
        rw [show formP none l = formP (prev l i) (l.drop i) from hI, List.drop_of_length_le (by omega)]
        cases prev l i <;> rfl
      clear hlt hR hI hP
      go_wp2_with fail
      go_ret
      exact ⟨by rw [show formP none l = true from he]; rfl, k1⟩
set_option maxRecDepth 100000 in
set_option maxHeartbeats 2000000 in
theorem fold9 {w : World} {a : Option Addr} {cap : Nat} {l : List Rn} (hR : Rz w a cap l) (hf : Fits l) :
    Calls Try.prog 13 #[.slice a l.length cap] w fun e w' => ∃ a' c', e = .returned (.slice a' (foldR l).length c') ∧ Rr w w' a' c' (foldR l) := by
  have hlc := hR.1
  have hlc2 := hR.2.1
  have hnew := new9 (w := w) (C := 512) (by omega)
  rw [show ((512 : Nat) : Int) = 512 from rfl] at hnew
  have hend : l.take l.length = l := List.take_length
  go_enter Try.func13, Try.ntmps13
  go_upto_region 2 with (go_at_call 28; refine hnew.mono ?_; rintro e w1 ⟨a1, c, rfl, R1⟩)
  clear hnew
  obtain ⟨G, rfl, -⟩ := R1.is.at (i := 0) (by simp)
  have hc := R1.is.1
  rw [List.length_replicate] at hc
  go_wp2_with fail
  go_loopw [4] (fun v wx => ∃ i : Nat, i ≤ l.length ∧ v = .int .i64 (i : Int) ∧ Ri w wx (some ⟨G, 0, none⟩) c (foldT (l.take i) blank)) (fun v _ => l.length - (intOf v).toNat)
  case atStart => exact ⟨0, by omega, rfl, R1⟩
  case round =>
    clear R1
    obtain ⟨i, hi, rfl, R2⟩ := hrel
    by_cases hlt : i < l.length
    · obtain ⟨x, hx⟩ := get_rn hlt
      obtain ⟨g, o, rfl, c0, c1, c2⟩ := (hR.more R2.keep).at hx
      have hfx := hf x (List.mem_of_getElem? hx)
      have K2 : Keep (fun _ => False) wr (wr.alloc (.cells #[.int .i64 x.lba, .int .i64 x.len, .int .i64 x.phys] 38)) := (Keep.refl _ _).alloc _
      have L1 : Blk (wr.alloc (.cells #[.int .i64 x.lba, .int .i64 x.len, .int .i64 x.phys] 38)) wr.heap.size 3 (rcell x) := blk_alloc wr _ 38 3 _ (fun i hi => by
        have : i = 0 ∨ i = 1 ∨ i = 2 := by omega
        rcases this with rfl | rfl | rfl <;> rfl)
      have R3 := R2.more K2
      have hGp : Hid (¬ wr.heap.size = G) := by
        show ¬ wr.heap.size = G
        have := (R2.block rfl).2
        omega
      have hnext : foldT (l.take (i + 1)) blank = fold1 (foldT (l.take i) blank) x := by
        rw [take_more hx, foldT_app]; rfl
      have htl : (foldT (l.take i) blank).length = 512 := by rw [foldT_len, blank_len]
      have di : (i : Int) < (l.length : Int) := by omega
      have dw := wrapI (x := (i : Int) + 1) (by omega) (by omega)
      have hlt' : Hid (i < l.length) := hlt
      go_upto_region 6 with fail
      generalize wr.alloc (.cells #[.int .i64 x.lba, .int .i64 x.len, .int .i64 x.phys] 38) = w2 at K2 L1 R3 ⊢
      generalize wr.heap.size = Gp at L1 hGp ⊢
      have l0 : w2.cell? ⟨Gp, 0, none⟩ = some (.int .i64 x.lba) := (L1 0 (by omega)).1
      have l1 : w2.cell? ⟨Gp, 1, none⟩ = some (.int .i64 x.len) := (L1 1 (by omega)).1
      have l2 : w2.cell? ⟨Gp, 2, none⟩ = some (.int .i64 x.phys) := (L1 2 (by omega)).1
      clear c0 c1 c2 K2 R2 hlt hf hend hR hx
      generalize foldT (l.take i) blank = t at R3 hnext htl
      by_cases hs : Skip x
      · have hn : fold1 t x = t := by unfold fold1; rw [if_pos hs]
        rw [hn] at hnext
        unfold Skip at hs
        have R4 : Hid (Ri w w2 (some ⟨G, 0, none⟩) c (foldT (l.take (i + 1)) blank)) := by show Ri w w2 _ c _; rw [hnext]; exact R3
        clear hnext hn L1 R3 htl
        by_cases s1 : x.phys < 0
        · clear hs
          go_wp2_with fail
          go_roundw
          case rel => exact ⟨i + 1, hlt', by go_num, R4⟩
          case measure => have : i < l.length := hlt'; simp [intOf]; omega
        by_cases s2 : 1048576 < x.phys
        · clear hs
          go_wp2_with fail
          go_roundw
          case rel => exact ⟨i + 1, hlt', by go_num, R4⟩
          case measure => have : i < l.length := hlt'; simp [intOf]; omega
        by_cases s3 : x.len < 1
        · clear hs
          go_wp2_with fail
          go_roundw
          case rel => exact ⟨i + 1, hlt', by go_num, R4⟩
          case measure => have : i < l.length := hlt'; simp [intOf]; omega
        by_cases s4 : x.lba < 0
        · clear hs
          go_wp2_with fail
          go_roundw
          case rel => exact ⟨i + 1, hlt', by go_num, R4⟩
          case measure => have : i < l.length := hlt'; simp [intOf]; omega
        have s5 : 512 < x.lba := by omega
        clear hs
        go_wp2_with fail
        go_roundw
        case rel => exact ⟨i + 1, hlt', by go_num, R4⟩
        case measure => have : i < l.length := hlt'; simp [intOf]; omega
      · have hn : fold1 t x = putN t x.lba.toNat x.phys (clipN x) := by unfold fold1; rw [if_neg hs]
        rw [hn] at hnext
        have hcl := clip_in hs
        unfold Skip at hs
        have s1 : ¬ x.phys < 0 := by omega
        have s2 : ¬ 1048576 < x.phys := by omega
        have s3 : ¬ x.len < 1 := by omega
        have s4 : ¬ x.lba < 0 := by omega
        have s5 : ¬ 512 < x.lba := by omega
        have hcn : (clipN x : Int) = min x.len (512 - x.lba) := by unfold clipN; omega
        obtain ⟨L, eL⟩ : ∃ L : Nat, x.lba = (L : Int) := ⟨x.lba.toNat, by omega⟩
        have hLt : x.lba.toNat = L := by omega
        rw [hLt] at hnext hcl
        have hput : ∀ k, putN t L x.phys (k + 1) = (putN t L x.phys k).set (L + k) (x.phys + k) := fun k => by rw [putN, if_neg s1]
        have hnext' : Hid (foldT (l.take (i + 1)) blank = putN t L x.phys (clipN x)) := hnext
        have hpl : ∀ k, (putN t L x.phys k).length = 512 := fun k => by rw [putN_len]; exact htl
        clear hn hs hLt hnext
        generalize clipN x = M at hcn hcl hnext'
        go_wp2_with fail
        go_loopw [6] (fun v wx => ∃ k : Nat, k ≤ M ∧ v = .int .i64 (k : Int) ∧ Ri w wx (some ⟨G, 0, none⟩) c (putN t L x.phys k) ∧ Blk wx Gp 3 (rcell x)) (fun v _ => M - (intOf v).toNat)
        case atStart => exact ⟨0, by omega, rfl, R3, L1⟩
        case round =>
          clear R3 L1 l0 l1 l2
          obtain ⟨k, hk, rfl, R4, L4⟩ := hrel
          have l0 : wr.cell? ⟨Gp, 0, none⟩ = some (.int .i64 x.lba) := (L4 0 (by omega)).1
          have l1 : wr.cell? ⟨Gp, 1, none⟩ = some (.int .i64 x.len) := (L4 1 (by omega)).1
          have l2 : wr.cell? ⟨Gp, 2, none⟩ = some (.int .i64 x.phys) := (L4 2 (by omega)).1
          have dlk := wrapI (x := x.lba + (k : Int)) (by omega) (by omega)
          by_cases hkl : k < M
          · obtain ⟨g', eg, y0⟩ := R4.is.at (i := L + k) (by rw [hpl]; omega)
            injection eg with eg; injection eg with eg; subst eg
            have z0 := R4.fz (L + k)
            have R5 := R4.set (L + k) (x.phys + k)
            rw [← hput] at R5
            have L5 : Blk (wr.setCell ⟨G, L + k, none⟩ (.int .i64 (x.phys + k))) Gp 3 (rcell x) := L4.other (a := ⟨G, L + k, none⟩) hGp _
            have dk1 : (k : Int) < x.len := by omega
            have dk2 : x.lba + (k : Int) < 512 := by omega
            have dk3 : ¬ x.lba + (k : Int) < 0 := by omega
            have dk4 : (x.lba + (k : Int)).toNat = L + k := by omega
            have dk5 : (0 : Int) ≤ x.lba + (k : Int) := by omega
            have dwk := wrapI (x := (k : Int) + 1) (by omega) (by omega)
            have dp := wrapI (x := x.phys + (k : Int)) (by omega) (by omega)
            have hkl' : Hid (k < M) := hkl
            clear R4 L4 hkl hput hpl
            go_wp2_with fail
            go_roundw
            case rel => exact ⟨k + 1, hkl', by go_num, R5, L5⟩
            case measure => have : k < M := hkl'; simp [intOf]; omega
          · have ek : k = M := by omega
            rw [ek, ← show foldT (l.take (i + 1)) blank = putN t L x.phys M from hnext'] at R4
            by_cases dk1 : (k : Int) < x.len
            · have dk2 : ¬ x.lba + (k : Int) < 512 := by omega
              clear hkl ek hput hpl L4
              go_wp2_with fail
              go_roundw
              case rel => exact ⟨i + 1, hlt', by go_num, R4⟩
              case measure => have : i < l.length := hlt'; simp [intOf]; omega
            · clear hkl ek hput hpl L4
              go_wp2_with fail
              go_roundw
              case rel => exact ⟨i + 1, hlt', by go_num, R4⟩
              case measure => have : i < l.length := hlt'; simp [intOf]; omega
    · have di : ¬ (i : Int) < (l.length : Int) := by omega
      have ei : i = l.length := by omega
      rw [ei, hend] at R2
      have c9 := runs9 R2.is (by rw [foldT_len, blank_len]; omega) (fun i => by have := foldT_ent l blank_len blank_ent i; omega)
      rw [foldT_len, blank_len, show refR (foldT l blank) 512 = foldR l from rfl] at c9
      have HK := R2.keep
      clear hlt ei hend R2 hf hR
      go_wp2_with (go_at_call 29; refine c9.mono ?_; rintro e w3 ⟨a', c', rfl, R3⟩)
      go_ret
      exact ⟨a', c', rfl, R3.older HK⟩
/-- A row of triples that came in. -/
def Rows3 (W : World) (a : Option Addr) (len cap : Nat) : Prop := ∃ l : List Rn, l.length = len ∧ Rz W a cap l ∧ Fits l
theorem three3 {j : Nat} (h : j < 3) : j = 0 ∨ j = 1 ∨ j = 2 := by omega
/-- A number by three. -/
def trip (a0 a1 a2 : Int) (j : Nat) : Int := if j = 0 then a0 else if j = 1 then a1 else a2
/-- A row of triples, told as a list. -/
theorem rows3_of {W : World} {b o len cap : Nat} (h1 : len ≤ cap) (h2 : cap ≤ 9223372036854775807) (h : ∀ i, i < len → ∃ f : Nat → Int, (∀ j, -9223372036854775808 ≤ f j ∧ f j ≤ 9223372036854775807) ∧ ∀ j, j < 3 → W.cell? ⟨b, o + i * 3 + j, none⟩ = some (.int .i64 (f j))) :
    ∀ n, n ≤ len → ∃ l : List Rn, l.length = n ∧ Fits l ∧ ∀ i x, l[i]? = some x → W.cell? ⟨b, o + i * 3, none⟩ = some (.int .i64 x.lba) ∧ W.cell? ⟨b, o + i * 3 + 1, none⟩ = some (.int .i64 x.len) ∧ W.cell? ⟨b, o + i * 3 + 2, none⟩ = some (.int .i64 x.phys)
  | 0, _ => ⟨[], rfl, (fun x hx => by cases hx), (fun i x hx => by simp at hx)⟩
  | n + 1, hn => by
    obtain ⟨l, hl, hf, hc⟩ := rows3_of h1 h2 h n (by omega)
    obtain ⟨f, hb, hv⟩ := h n (by omega)
    refine ⟨l ++ [⟨f 0, f 1, f 2⟩], by simp [hl], fun x hx => ?_, fun i x hx => ?_⟩
    · rcases List.mem_append.1 hx with hx | hx
      · exact hf x hx
      · simp at hx; subst hx; exact ⟨hb 0, hb 1, hb 2⟩
    · by_cases c : i < l.length
      · rw [List.getElem?_append_left c] at hx
        exact hc i x hx
      · rw [List.getElem?_append_right (by omega)] at hx
        have e : i - l.length = 0 := by
          by_cases c2 : i - l.length = 0
          · exact c2
          · rw [List.getElem?_eq_none (by simp; omega)] at hx; cases hx
        rw [e] at hx
        simp at hx
        subst hx
        have ei : i = n := by omega
        subst ei
        exact ⟨hv 0 (by omega), hv 1 (by omega), hv 2 (by omega)⟩
theorem cells34 : Try.prog.cellsOf 39 = 3 := by kernel_rfl
set_option maxRecDepth 100000 in
theorem trip_of_trod34 {H : Type} {enc : TypeId × Value → H} {w : World} {base fuel : Nat} {spare : Nat → Bool} {held : Bool} {cs : List Value} {x : DataW H × List MemPlace}
    (h : DataW.trod enc Try.prog w base spare held fuel 39 cs = some x) :
    ∃ a : Nat → Int, cs = [.int .i64 (a 0), .int .i64 (a 1), .int .i64 (a 2)] ∧ ∀ j, -9223372036854775808 ≤ a j ∧ a j ≤ 9223372036854775807 := by
  obtain ⟨xs, n, rfl, _, hl, hxl, hf⟩ := DataW.trod_struct Try.underlying39 h
  rw [cells34] at hl
  obtain ⟨v0, v1, v2, rfl⟩ : ∃ v0 v1 v2, cs = [v0, v1, v2] := by
    match cs, hl with
    | [v0, v1, v2], _ => exact ⟨v0, v1, v2, rfl⟩
  have hx : ∀ i, i < 3 → ∃ y, xs[i]? = some y := fun i hi => ⟨xs[i]'(by rw [hxl]; exact hi), List.getElem?_eq_getElem _⟩
  obtain ⟨y0, e0⟩ := hx 0 (by omega)
  obtain ⟨y1, e1⟩ := hx 1 (by omega)
  obtain ⟨y2, e2⟩ := hx 2 (by omega)
  have k0 : DataW.trod enc Try.prog w base spare held n 3 (List.take (Try.prog.cellsOf 3) (List.drop 0 [v0, v1, v2])) = xs[0]? := hf 0 _ rfl
  have k1 : DataW.trod enc Try.prog w base spare held n 3 (List.take (Try.prog.cellsOf 3) (List.drop 1 [v0, v1, v2])) = xs[1]? := hf 1 _ rfl
  have k2 : DataW.trod enc Try.prog w base spare held n 3 (List.take (Try.prog.cellsOf 3) (List.drop 2 [v0, v1, v2])) = xs[2]? := hf 2 _ rfl
  rw [e0, cells3] at k0
  rw [e1, cells3] at k1
  rw [e2, cells3] at k2
  obtain ⟨n0, q0, _, w0⟩ := DataW.trod_int Try.underlying3 k0
  obtain ⟨n1, q1, _, w1⟩ := DataW.trod_int Try.underlying3 k1
  obtain ⟨n2, q2, _, w2⟩ := DataW.trod_int Try.underlying3 k2
  simp at q0 q1 q2
  subst q0 q1 q2
  have r0 := int_fits w0
  have r1 := int_fits w1
  have r2 := int_fits w2
  exact ⟨trip n0 n1 n2, rfl, fun j => by unfold trip; split; exact r0; split; exact r1; exact r2⟩
set_option maxRecDepth 100000 in
/-- Cells that read as such a row. -/
theorem rows_of_trod32 {H : Type} {enc : TypeId × Value → H} {W : World} {spare : Nat → Bool} {held : Bool} {a : Option Addr} {len cap fuel : Nat} {x : DataW H × List MemPlace}
    (hf : DataW.trod enc Try.prog W 0 spare held fuel 27 [.slice a len cap] = some x) : Rows3 W a len cap := by
  rcases Deep.open_slice Try.underlying27 hf with ⟨hcs, hx⟩ | ⟨ad, l, c, m, n, D, Pl, hcs, _, hl, hm, hmm, _, hi⟩
  · simp at hcs
    obtain ⟨rfl, rfl, rfl⟩ := hcs
    exact ⟨[], rfl, ⟨by simp, by omega, Or.inl rfl⟩, fun x hx => by cases hx⟩
  · simp at hcs
    obtain ⟨rfl, rfl, rfl⟩ := hcs
    unfold maxLen at hm
    have hmm' : len ≤ m := by
      rw [hmm]; split <;> omega
    by_cases h0 : len = 0
    · subst h0
      exact ⟨[], rfl, ⟨by simp, by omega, Or.inl rfl⟩, fun x hx => by cases hx⟩
    · obtain ⟨b, off, spot⟩ := ad
      have hall : ∀ i, i < len → ∃ f : Nat → Int, (∀ j, -9223372036854775808 ≤ f j ∧ f j ≤ 9223372036854775807) ∧ ∀ j, j < 3 → W.cell? (((⟨b, off, spot⟩ : Addr).add (i * 3)).add j) = some (.int .i64 (f j)) := by
        intro i hil
        obtain ⟨cs', hc, ht⟩ := hi i (by omega)
        rw [cells34] at hc
        obtain ⟨f, rfl, hfr⟩ := trip_of_trod34 ht
        have g := cells_get hc
        refine ⟨f, hfr, fun j hj => ?_⟩
        rw [g j hj]
        rcases three3 hj with rfl | rfl | rfl <;> rfl
      have hspot : spot = none := by
        obtain ⟨f, -, h1⟩ := hall 0 (by omega)
        simpa [Addr.add] using World.cell?_spot (h1 0 (by omega))
      subst hspot
      obtain ⟨rows, hr1, hr2, hr3⟩ := rows3_of (W := W) (b := b) (o := off) (len := len) (cap := cap) hl (by omega) (fun i hil => by
        obtain ⟨f, hfr, h1⟩ := hall i hil
        refine ⟨f, hfr, fun j hj => ?_⟩
        have := h1 j hj
        rwa [Addr.add_lit, Addr.add_lit] at this) len (Nat.le_refl _)
      exact ⟨rows, hr1, ⟨by omega, by omega, Or.inr ⟨b, off, rfl, hr3⟩⟩, hr2⟩
theorem open_rows32 {H : Type} {enc : TypeId × Value → H} {W : World} {a : Option Addr} {len cap : Nat} {d : DataW H} {p : List MemPlace}
    (h : DataW.Trod enc Try.prog W 0 (fun _ => true) true 27 (.slice a len cap) d p) : Rows3 W a len cap := by
  obtain ⟨fuel, hf⟩ := h
  exact rows_of_trod32 (by simpa [Value.cells] using hf)
theorem cells57 : Try.prog.cellsOf 38 = 3 := by kernel_rfl
set_option maxRecDepth 100000 in
theorem trip_of_trod57 {H : Type} {enc : TypeId × Value → H} {w : World} {base fuel : Nat} {spare : Nat → Bool} {held : Bool} {cs : List Value} {x : DataW H × List MemPlace}
    (h : DataW.trod enc Try.prog w base spare held fuel 38 cs = some x) :
    ∃ a : Nat → Int, cs = [.int .i64 (a 0), .int .i64 (a 1), .int .i64 (a 2)] ∧ ∀ j, -9223372036854775808 ≤ a j ∧ a j ≤ 9223372036854775807 := by
  obtain ⟨xs, n, rfl, _, hl, hxl, hf⟩ := DataW.trod_struct Try.underlying38 h
  rw [cells57] at hl
  obtain ⟨v0, v1, v2, rfl⟩ : ∃ v0 v1 v2, cs = [v0, v1, v2] := by
    match cs, hl with
    | [v0, v1, v2], _ => exact ⟨v0, v1, v2, rfl⟩
  have hx : ∀ i, i < 3 → ∃ y, xs[i]? = some y := fun i hi => ⟨xs[i]'(by rw [hxl]; exact hi), List.getElem?_eq_getElem _⟩
  obtain ⟨y0, e0⟩ := hx 0 (by omega)
  obtain ⟨y1, e1⟩ := hx 1 (by omega)
  obtain ⟨y2, e2⟩ := hx 2 (by omega)
  have k0 : DataW.trod enc Try.prog w base spare held n 3 (List.take (Try.prog.cellsOf 3) (List.drop 0 [v0, v1, v2])) = xs[0]? := hf 0 _ rfl
  have k1 : DataW.trod enc Try.prog w base spare held n 3 (List.take (Try.prog.cellsOf 3) (List.drop 1 [v0, v1, v2])) = xs[1]? := hf 1 _ rfl
  have k2 : DataW.trod enc Try.prog w base spare held n 3 (List.take (Try.prog.cellsOf 3) (List.drop 2 [v0, v1, v2])) = xs[2]? := hf 2 _ rfl
  rw [e0, cells3] at k0
  rw [e1, cells3] at k1
  rw [e2, cells3] at k2
  obtain ⟨n0, q0, _, w0⟩ := DataW.trod_int Try.underlying3 k0
  obtain ⟨n1, q1, _, w1⟩ := DataW.trod_int Try.underlying3 k1
  obtain ⟨n2, q2, _, w2⟩ := DataW.trod_int Try.underlying3 k2
  simp at q0 q1 q2
  subst q0 q1 q2
  have r0 := int_fits w0
  have r1 := int_fits w1
  have r2 := int_fits w2
  exact ⟨trip n0 n1 n2, rfl, fun j => by unfold trip; split; exact r0; split; exact r1; exact r2⟩
set_option maxRecDepth 100000 in
/-- Cells that read as such a row. -/
theorem rows_of_trod55 {H : Type} {enc : TypeId × Value → H} {W : World} {spare : Nat → Bool} {held : Bool} {a : Option Addr} {len cap fuel : Nat} {x : DataW H × List MemPlace}
    (hf : DataW.trod enc Try.prog W 0 spare held fuel 23 [.slice a len cap] = some x) : Rows3 W a len cap := by
  rcases Deep.open_slice Try.underlying23 hf with ⟨hcs, hx⟩ | ⟨ad, l, c, m, n, D, Pl, hcs, _, hl, hm, hmm, _, hi⟩
  · simp at hcs
    obtain ⟨rfl, rfl, rfl⟩ := hcs
    exact ⟨[], rfl, ⟨by simp, by omega, Or.inl rfl⟩, fun x hx => by cases hx⟩
  · simp at hcs
    obtain ⟨rfl, rfl, rfl⟩ := hcs
    unfold maxLen at hm
    have hmm' : len ≤ m := by
      rw [hmm]; split <;> omega
    by_cases h0 : len = 0
    · subst h0
      exact ⟨[], rfl, ⟨by simp, by omega, Or.inl rfl⟩, fun x hx => by cases hx⟩
    · obtain ⟨b, off, spot⟩ := ad
      have hall : ∀ i, i < len → ∃ f : Nat → Int, (∀ j, -9223372036854775808 ≤ f j ∧ f j ≤ 9223372036854775807) ∧ ∀ j, j < 3 → W.cell? (((⟨b, off, spot⟩ : Addr).add (i * 3)).add j) = some (.int .i64 (f j)) := by
        intro i hil
        obtain ⟨cs', hc, ht⟩ := hi i (by omega)
        rw [cells57] at hc
        obtain ⟨f, rfl, hfr⟩ := trip_of_trod57 ht
        have g := cells_get hc
        refine ⟨f, hfr, fun j hj => ?_⟩
        rw [g j hj]
        rcases three3 hj with rfl | rfl | rfl <;> rfl
      have hspot : spot = none := by
        obtain ⟨f, -, h1⟩ := hall 0 (by omega)
        simpa [Addr.add] using World.cell?_spot (h1 0 (by omega))
      subst hspot
      obtain ⟨rows, hr1, hr2, hr3⟩ := rows3_of (W := W) (b := b) (o := off) (len := len) (cap := cap) hl (by omega) (fun i hil => by
        obtain ⟨f, hfr, h1⟩ := hall i hil
        refine ⟨f, hfr, fun j hj => ?_⟩
        have := h1 j hj
        rwa [Addr.add_lit, Addr.add_lit] at this) len (Nat.le_refl _)
      exact ⟨rows, hr1, ⟨by omega, by omega, Or.inr ⟨b, off, rfl, hr3⟩⟩, hr2⟩
theorem open_rows55 {H : Type} {enc : TypeId × Value → H} {W : World} {a : Option Addr} {len cap : Nat} {d : DataW H} {p : List MemPlace}
    (h : DataW.Trod enc Try.prog W 0 (fun _ => true) true 23 (.slice a len cap) d p) : Rows3 W a len cap := by
  obtain ⟨fuel, hf⟩ := h
  exact rows_of_trod55 (by simpa [Value.cells] using hf)
theorem step_append_run {P : Program} {ops : Array Oper} {o : Oper} {a : Act} {w : World} {K : Act → World → Prop} {Q : Exit → Act → World → Prop} {E : Prop}
    (hw : Region.wanted o (yielded ops a.tmps) = true) (s x : Operand) (t : TypeId) (hop : o.op = Op.call { callee := Callee.builtin Builtin.append, args := #[s, x], argTypes := #[t, t] })
    {v1 v2 v' : Value} {w' : World} (hs : a.eval s = v1) (hx : a.eval x = v2) (hrun : (Builtin.append_ #[t, t] o.type #[v1, v2]).run P w = .ok v' w')
    (hK : K (a.put o.dst v') w') : if Region.wanted o (yielded ops a.tmps) = true then Oper.wp P o a w K Q else E := by
  rw [if_pos hw]
  unfold Oper.wp
  simp [execOp, hop, resolve, invoke, builtin, hs, hx, hrun, Result.andThen]
  exact hK
/-- Does a run begin above 2^20? -/
def farL (m : List Rn) : Bool := m.any (fun x => decide (1048576 < x.phys))
theorem farL_no {m : List Rn} (h : farL m = false) : ∀ x ∈ m, x.phys ≤ 1048576 := fun x hx => by
  unfold farL at h
  rw [List.any_eq_false] at h
  have := h x hx
  simp at this
  exact this
theorem foldR_in {l : List Rn} {x : Rn} (hx : x ∈ foldR l) : inB x = true := by
  have hok := (foldR_form l).1 x hx
  have hfin := foldR_fin hx
  have hp := (foldR_form l).page_of hx (s := x.lba) (by omega) (by unfold Rn.fin; unfold Rn.Ok at hok; omega)
  rw [(foldR_of l).2] at hp
  have he := foldT_ent l blank_len blank_ent x.lba.toNat
  unfold Rn.Ok at hok
  unfold Rn.fin at hfin
  rw [inB_iff]
  unfold entry at hp
  split at hp
  · injection hp with hp
    omega
  · cases hp
theorem foldR_formP (l : List Rn) : formP none (foldR l) = true := form_true (foldR_form l) (fun x hx => foldR_in hx) (fun a e => by cases e)
theorem foldR_len (l : List Rn) : (foldR l).length ≤ 512 := refR_len _ 512
theorem foldR_fits (l : List Rn) : Fits (foldR l) := fun x hx => by
  have h := inB_iff.1 (foldR_in hx)
  omega
theorem foldR_self {l : List Rn} (h : farL (foldR l) = false) : foldR (foldR l) = foldR l := fold_self (foldR_form l) (fun x hx => ⟨foldR_fin hx, farL_no h x hx⟩)
theorem sameL_refl (m : List Rn) : sameL m m = true := sameL_iff.2 rfl
/-- A row's cells, from its first on. -/
theorem Rz.hcells {w : World} {ad : Addr} {cap : Nat} {l : List Rn} (h : Rz w (some ad) cap l) : ∀ j u, (rcells l)[j]? = some u → w.cell? (ad.add j) = some u := fun j u hu => by
  have hj := (List.getElem?_eq_some_iff.1 hu).1
  rw [rcells_len] at hj
  obtain ⟨x, hx⟩ := get_rn (m := l) (i := j / 3) (by omega)
  obtain ⟨g', o', e, c0, c1, c2⟩ := h.at hx
  injection e with e
  subst e
  have hr := rcells_at hx (j % 3) (by omega)
  rw [show j / 3 * 3 + j % 3 = j by omega, hu] at hr
  rw [Addr.add_lit]
  have h3 : j % 3 = 0 ∨ j % 3 = 1 ∨ j % 3 = 2 := by omega
  rcases h3 with h3 | h3 | h3
  · rw [h3] at hr; rw [show o' + j = o' + j / 3 * 3 by omega, hr]; exact c0
  · rw [h3] at hr; rw [show o' + j = o' + j / 3 * 3 + 1 by omega, hr]; exact c1
  · rw [h3] at hr; rw [show o' + j = o' + j / 3 * 3 + 2 by omega, hr]; exact c2
set_option maxRecDepth 100000 in
set_option maxHeartbeats 1000000 in
theorem sameZ {w : World} {a1 a2 : Option Addr} {c1 c2 : Nat} {m1 m2 : List Rn} (h1 : Rz w a1 c1 m1) (h2 : Rz w a2 c2 m2) (hl1 : m1.length ≤ 9223372036854775807) :
    Calls Try.prog 21 #[.slice a1 m1.length c1, .slice a2 m2.length c2] w fun e w' => e = .returned (.bool (sameL m1 m2)) ∧ Keep (fun _ => False) w w' := by
  have K0 := Keep.refl (fun _ => False) w
  have hc1 := h1.1
  have hc2 := h2.1
  by_cases hl : m1.length = m2.length
  · have hb : ((m1.length : Int) != (m2.length : Int)) = false := by simp [hl]
    have hl' : Hid (m1.length = m2.length) := hl
    have hl1' : (m1.length : Int) ≤ 9223372036854775807 := by omega
    have hm2 : (m2.length : Int) = (m1.length : Int) := by omega
    have hm2' : Hid ((m2.length : Int) = (m1.length : Int)) := hm2
    clear hl hl1 hm2
    go_enter Try.func21, Try.ntmps21
    go_wp2_with fail
    go_loopw [5] (fun v wx => ∃ i : Nat, i ≤ m1.length ∧ v = .int .i64 (i : Int) ∧ Hid (m1.take i = m2.take i) ∧ Keep (fun _ => False) w wx) (fun v _ => m1.length - (intOf v).toNat)
    case atStart => exact ⟨0, by omega, rfl, by show m1.take 0 = m2.take 0; simp, K0⟩
    case round =>
      obtain ⟨i, hi, rfl, hI, k1⟩ := hrel
      by_cases hlt : i < m1.length
      · have hlt2 : i < m2.length := by have := show m1.length = m2.length from hl'; omega
        obtain ⟨x, hx⟩ := get_rn hlt
        obtain ⟨y, hy⟩ := get_rn hlt2
        obtain ⟨g1, o1, rfl, e0, e1, e2⟩ := (h1.more k1).at hx
        obtain ⟨g2, o2, rfl, f0, f1, f2⟩ := (h2.more k1).at hy
        have di : (i : Int) < (m1.length : Int) := by omega
        have di2 : (i : Int) < (m2.length : Int) := by omega
        have dw := wrapI (x := (i : Int) + 1) (by omega) (by omega)
        have hlt' : Hid (i < m1.length) := hlt
        have t1 : Hid (m1.take (i + 1) = m1.take i ++ [x]) := take_next hx
        have t2 : Hid (m2.take (i + 1) = m2.take i ++ [y]) := take_next hy
        by_cases e : x = y
        · subst e
          have hI2 : Hid (m1.take (i + 1) = m2.take (i + 1)) := by
            show m1.take (i + 1) = m2.take (i + 1)
            rw [show m1.take (i + 1) = _ from t1, show m2.take (i + 1) = _ from t2, show m1.take i = m2.take i from hI]
          clear hx hy hlt hlt2 hI t1 t2
          go_wp2_with fail
          go_quiet (fail)
          go_wp2_with fail
          go_roundw
          case rel => exact ⟨i + 1, hlt', by go_num, hI2, k1.drewN _⟩
          case measure => have : i < m1.length := hlt'; simp [intOf]; omega
        · have hne : Hid (sameL m1 m2 = false) := by
            show sameL m1 m2 = false
            rw [Bool.eq_false_iff]
            intro hs
            have := sameL_iff.1 hs
            subst this
            rw [hx] at hy
            injection hy with hy
            exact e hy
          clear hx hy hlt hlt2 hI t1 t2 h1 h2
          by_cases u1 : x.lba = y.lba
          · have v1 : (x.lba == y.lba) = true := by simp [u1]
            by_cases u2 : x.len = y.len
            · have v2 : (x.len == y.len) = true := by simp [u2]
              have v3 : (x.phys == y.phys) = false := by
                simp
                intro u3
                exact e (by cases x; cases y; simp only at u1 u2 u3; subst u1; subst u2; subst u3; rfl)
              clear e u1 u2
              go_wp2_with fail
              go_quiet (fail)
              go_wp2_with fail
              go_ret
              exact ⟨by rw [show sameL m1 m2 = false from hne]; rfl, k1.drewN _⟩
            · have v2 : (x.len == y.len) = false := by simp [u2]
              clear e u1 u2
              go_wp2_with fail
              go_quiet (fail)
              go_wp2_with fail
              go_ret
              exact ⟨by rw [show sameL m1 m2 = false from hne]; rfl, k1.drewN _⟩
          · have v1 : (x.lba == y.lba) = false := by simp [u1]
            clear e u1
            go_wp2_with fail
            go_quiet (fail)
            go_wp2_with fail
            go_ret
            exact ⟨by rw [show sameL m1 m2 = false from hne]; rfl, k1.drewN _⟩
      · have di : ¬ (i : Int) < (m1.length : Int) := by omega
        have he : Hid (sameL m1 m2 = true) := sameL_iff.2 (sameL_take hl' hI (by omega))
        clear hlt h1 h2
        go_wp2_with fail
        go_ret
        exact ⟨by rw [show sameL m1 m2 = true from he]; rfl, k1⟩
  · have hb : ((m1.length : Int) != (m2.length : Int)) = true := by simp; omega
    have hne : Hid (sameL m1 m2 = false) := by
      show sameL m1 m2 = false
      rw [Bool.eq_false_iff]
      intro hs
      exact hl (by rw [sameL_iff.1 hs])
    clear hl h1 h2
    go_enter Try.func21, Try.ntmps21
    go_wp2_with fail
    go_ret
    exact ⟨by rw [show sameL m1 m2 = false from hne]; rfl, K0⟩
theorem rr_made0 (w : World) : Rr w (w.alloc (.cells #[] 39)) (some ⟨w.heap.size, 0, none⟩) 0 [] :=
  ⟨World.ownsRow_lit (e := 39) (size := 3) (base := w.heap.size) w #[] 0 (Nat.le_refl _) (by unfold maxLen; omega) rfl, (Keep.refl _ _).alloc _⟩
theorem run_app_noneR (a : Addr) (c : Nat) (w : World) : (Builtin.append_ #[27, 27] 27 #[.slice (some a) 0 0, .slice none 0 c]).run Try.prog w = .ok (.slice (some a) 0 0) w := by kernel_rfl
set_option maxRecDepth 100000 in
theorem Rr.appL {w0 w : World} {a : Option Addr} {cap : Nat} {m : List Rn} (h : Rr w0 w a cap m) (x : Addr) (c : Nat) (ns : List Rn) (hl : m.length + ns.length ≤ 5864062014805) (hnews : ∀ j u, (rcells ns)[j]? = some u → w.cell? (x.add j) = some u) :
    ∃ a' cap' w', (Builtin.append_ #[27, 27] 27 #[.slice a m.length cap, .slice (some x) ns.length c]).run Try.prog w = .ok (.slice a' (m.length + ns.length) cap') w' ∧ Rr w0 w' a' cap' (m ++ ns) ∧ Keep (fun b => w0.heap.size ≤ b) w w' := by
  obtain ⟨i, hi, hz0, hz1, hz2⟩ := info_parts info31
  have hs := h.keep.size
  obtain ⟨v', w', hrun, hown, hgrow, hnil⟩ := run_append_own (P := Try.prog) w w0.heap.size 27 27 39 i _ 3 24 Try.underlying27 hi hz0 hz1 hz2 rfl (by decide) (.slice a m.length cap) m.length (rcells m) h.own
    x ns.length c (rcells ns) (rcells_len ns) hnews (by intro u hu; obtain ⟨y, _, hy⟩ := List.mem_flatMap.1 hu; simp [rcs] at hy; rcases hy with rfl | rfl | rfl <;> rfl) (by unfold maxLen; omega) (by omega) hs
  have hk : Keep (fun b => w0.heap.size ≤ b) w w' := (keep_grown hgrow).mono (fun b _ e => (h.own.lt b e.symm).1)
  have hK : Keep (fun _ => False) w0 w' := h.keep.next hk (fun y hy e => by omega)
  rw [← rcells_app, ← List.length_append] at hown
  have hshape : ∃ a' cap', v' = .slice a' (m ++ ns).length cap' := by
    rcases hown.2 with ⟨e, hn⟩ | ⟨g, c', cur, e, -⟩
    · exact ⟨none, 0, by rw [hn]; exact e⟩
    · exact ⟨_, _, e⟩
  obtain ⟨a', cap', rfl⟩ := hshape
  exact ⟨a', cap', w', by rw [hrun, List.length_append], ⟨hown, hK⟩, hk⟩
theorem copy_runsL {w : World} {a : Option Addr} {c : Nat} {x : List Rn} (h : Rz w a c x) (hx : x.length ≤ 5864062014805) : ∃ a1 c1 w1, (Builtin.append_ #[27, 27] 27 #[.slice (some ⟨w.heap.size, 0, none⟩) 0 0, .slice a x.length c]).run Try.prog (w.alloc (.cells #[] 39)) = .ok (.slice a1 x.length c1) w1 ∧ Rr w w1 a1 c1 x := by
  cases a with
  | none =>
    have : x = [] := by
      rcases h.2.2 with e | ⟨g, o, e, -⟩
      · exact e
      · cases e
    subst this
    exact ⟨_, _, _, run_app_noneR _ _ _, rr_made0 w⟩
  | some ad =>
    obtain ⟨a1, c1, w1, h1, h2, -⟩ := (rr_made0 w).appL ad c x (by simp; omega) (h.more ((Keep.refl _ _).alloc _)).hcells
    rw [List.length_nil, Nat.zero_add] at h1
    exact ⟨a1, c1, w1, h1, h2⟩
theorem Rr.app1L {w0 w : World} {a : Option Addr} {cap : Nat} {m : List Rn} (h : Rr w0 w a cap m) (hl : m.length ≤ 5864062014800) (x : Rn) :
    ∃ a' cap' w', (Builtin.append_ #[27, 27] 27 #[.slice a m.length cap, .slice (some ⟨w.heap.size, 0, none⟩) 1 1]).run Try.prog (w.alloc (.cells #[.int .i64 x.lba, .int .i64 x.len, .int .i64 x.phys] 39)) = .ok (.slice a' (m.length + 1) cap') w' ∧ Rr w0 w' a' cap' (m ++ [x]) := by
  obtain ⟨a', cap', w', h1, h2, -⟩ := (h.more ((Keep.refl (fun _ => False) w).alloc (.cells #[.int .i64 x.lba, .int .i64 x.len, .int .i64 x.phys] 39))).appL ⟨w.heap.size, 0, none⟩ 1 [x] (by simp; omega) (fun j u hu => cells_new w _ 39 j u (by simpa [rcells, rcs] using hu))
  exact ⟨a', cap', w', h1, h2⟩
theorem Rr.some {w0 w : World} {a : Option Addr} {cap : Nat} {m : List Rn} (h : Rr w0 w a cap m) (hm : m ≠ []) : ∃ g, a = some ⟨g, 0, none⟩ := by
  obtain ⟨g, hg, -⟩ := h.rs.2.2.resolve_left hm
  exact ⟨g, hg⟩
theorem Rz.init {w : World} {a : Option Addr} {cap : Nat} {l m : List Rn} (h : Rz w a cap (l ++ m)) : Rz w a cap l := by
  obtain ⟨h1, h2, h3⟩ := h
  rw [List.length_append] at h1
  refine ⟨by omega, h2, ?_⟩
  rcases h3 with e | ⟨g, o, rfl, hc⟩
  · exact Or.inl (List.append_eq_nil_iff.1 e).1
  · exact Or.inr ⟨g, o, rfl, fun i x hx => hc i x (by rw [List.getElem?_append_left (List.getElem?_eq_some_iff.1 hx).1]; exact hx)⟩
/-- Runs that pass the test are in their form. -/
theorem formP_form : ∀ {l : List Rn} {p : Option Rn}, formP p l = true → Form l ∧ (∀ x ∈ l, inB x = true) ∧ ∀ a, p = some a → 1 ≤ a.len → ∀ x ∈ l, a.fin ≤ x.lba ∧ ¬ Glued a x
  | [], p, _ => ⟨Form.nil, (fun x hx => by cases hx), (fun a _ _ x hx => by cases hx)⟩
  | x :: l, p, h => by
    have h' : okAt p x = true ∧ formP (some x) l = true := by rwa [formP_at, Bool.and_eq_true] at h
    obtain ⟨h1, h2⟩ := h'
    obtain ⟨f1, f2, f3⟩ := formP_form h2
    have hb : inB x = true := by
      unfold okAt at h1
      rw [Bool.and_eq_true] at h1
      exact h1.1
    have hb' := inB_iff.1 hb
    refine ⟨Form.cons.2 ⟨⟨hb'.1, hb'.2.2.1, hb'.2.2.2.2.1⟩, f3 x rfl hb'.2.2.1, f1⟩, fun y hy => ?_, fun a e ha y hy => ?_⟩
    · rcases List.mem_cons.1 hy with rfl | hy
      · exact hb
      · exact f2 y hy
    · subst e
      have hfo : folB a x = true := by
        unfold okAt at h1
        rw [Bool.and_eq_true] at h1
        exact h1.2
      have hax : a.fin ≤ x.lba ∧ ¬ Glued a x := by
        unfold folB at hfo
        unfold Glued Rn.fin
        split at hfo
        · simp at hfo; omega
        · simp at hfo; omega
      rcases List.mem_cons.1 hy with rfl | hy
      · exact hax
      · have h4 := f3 x rfl hb'.2.2.1 y hy
        unfold Glued Rn.fin at *
        omega
/-- Do runs end where they may? -/
def endB (l : List Rn) : Bool := match l.getLast? with
  | none => true
  | some x => decide (x.fin ≤ 512)
theorem ends_fin {l : List Rn} (h : Form l) (he : endB l = true) : ∀ x ∈ l, x.fin ≤ 512 := by
  unfold endB at he
  cases hl : l.getLast? with
  | none =>
    simp only [List.getLast?_eq_none_iff] at hl
    subst hl
    simp
  | some y =>
    rw [hl] at he
    simp only [decide_eq_true_iff] at he
    intro x hx
    obtain ⟨m, rfl⟩ := List.getLast?_eq_some_iff.1 hl
    rcases List.mem_append.1 hx with hx | hx
    · have h5 := (List.pairwise_append.1 h.2).2.2 x hx y (by simp)
      have h6 := h.1 y (by simp)
      unfold Rn.Ok at h6
      unfold Rn.fin at *
      omega
    · simp at hx; subst hx; exact he
/-- May these runs be? -/
def fit13 (l : List Rn) : Bool := decide (l.length ≤ 512) && (formP none l && endB l)
structure Ft13 (l : List Rn) : Prop where
  len : l.length ≤ 512
  form : Form l
  inb : ∀ x ∈ l, inB x = true
  fin : ∀ x ∈ l, x.fin ≤ 512
theorem Ft13.of {l : List Rn} (h : fit13 l = true) : Ft13 l := by
  unfold fit13 at h
  rw [Bool.and_eq_true, Bool.and_eq_true, decide_eq_true_iff] at h
  obtain ⟨h1, h2, h3⟩ := h
  have hf := formP_form h2
  exact ⟨h1, hf.1, hf.2.1, ends_fin hf.1 h3⟩
theorem Ft13.bd {l : List Rn} (h : Ft13 l) {x : Rn} (hx : x ∈ l) : 0 ≤ x.lba ∧ 1 ≤ x.len ∧ x.lba + x.len ≤ 512 ∧ 0 ≤ x.phys ∧ x.phys ≤ 1073741824 := by
  have h1 := inB_iff.1 (h.inb x hx)
  have h2 := h.fin x hx
  unfold Rn.fin at h2
  omega
set_option maxHeartbeats 600000 in
theorem ends_any {w : World} {a : Option Addr} {cap : Nat} {l : List Rn} (hR : Rz w a cap l) (hb : ∀ x ∈ l, inB x = true) :
    Calls Try.prog 26 #[.slice a l.length cap, .int .i64 512] w fun e w' => e = .returned (.bool (endB l)) ∧ Keep (fun _ => False) w w' := by
  have K0 := Keep.refl (fun _ => False) w
  have hlc := hR.1
  have hlc2 := hR.2.1
  unfold endB
  cases hl : l.getLast? with
  | none =>
    simp only [List.getLast?_eq_none_iff] at hl
    subst hl
    go_enter Try.func26, Try.ntmps26
    go_wp2_with fail
    go_quiet (fail)
    go_wp2_with fail
    go_ret
    exact ⟨rfl, K0.drewN _⟩
  | some x =>
    obtain ⟨m, rfl⟩ := List.getLast?_eq_some_iff.1 hl
    have hm : (m ++ [x]).length = m.length + 1 := by simp
    obtain ⟨g, o, rfl, c0, c1, c2⟩ := hR.at (i := m.length) (x := x) (by simp)
    have hx := inB_iff.1 (hb x (by simp))
    clear hb hR hl
    generalize (m ++ [x]).length = n at hm hlc ⊢
    generalize m.length = k at c0 c1 c2 hm
    have f1 : IntKind.i64.wrap ((n : Int) - 1) = (k : Int) := by rw [wrapI (by omega) (by omega)]; omega
    have f2 := wrapI (x := x.lba + x.len) (by omega) (by omega)
    have f3 : ((n : Int) == 0) = false := beq_eq_false_iff_ne.2 (by omega)
    have f4 : (k : Int) < (n : Int) := by omega
    have f5 : k < n := by omega
    clear hm
    unfold Rn.fin
    go_enter Try.func26, Try.ntmps26
    go_wp2_with fail
    go_quiet (fail)
    go_wp2_with fail
    go_ret
    exact ⟨rfl, K0.drewN _⟩
set_option maxHeartbeats 600000 in
theorem fits13 {w : World} {a : Option Addr} {cap : Nat} {l : List Rn} (hR : Rz w a cap l) :
    Calls Try.prog 22 #[.slice a l.length cap] w fun e w' => e = .returned (.bool (fit13 l)) ∧ Keep (fun _ => False) w w' := by
  have K0 := Keep.refl (fun _ => False) w
  have hlc := hR.1
  have hlc2 := hR.2.1
  unfold fit13
  by_cases hl : l.length ≤ 512
  · have hl' : (l.length : Int) ≤ 512 := by omega
    rw [decide_eq_true hl, Bool.true_and]
    have hf := fun {w'} (k : Keep (fun _ => False) w w') => form9 (hR.more k) (by omega)
    cases hfo : formP none l with
    | false =>
      rw [hfo] at hf
      rw [Bool.false_and]
      go_enter Try.func22, Try.ntmps22
      go_wp2_with fail
      refine (hf K0).mono ?_
      rintro e w1 ⟨rfl, k1⟩
      go_wp2_with fail
      go_ret
      exact ⟨rfl, k1⟩
    | true =>
      have hF := formP_form hfo
      rw [hfo] at hf
      rw [Bool.true_and]
      have he := fun {w'} (k : Keep (fun _ => False) w w') => ends_any (hR.more k) hF.2.1
      clear hfo hF
      go_enter Try.func22, Try.ntmps22
      go_wp2_with fail
      refine (hf K0).mono ?_
      rintro e w1 ⟨rfl, k1⟩
      go_wp2_with fail
      refine (he k1).mono ?_
      rintro e w2 ⟨rfl, k2⟩
      go_wp2_with fail
      go_ret
      exact ⟨rfl, k1.trans k2⟩
  · rw [decide_eq_false hl, Bool.false_and]
    have hl' : ¬ (l.length : Int) ≤ 512 := by omega
    go_enter Try.func22, Try.ntmps22
    go_wp2_with fail
    go_ret
    exact ⟨rfl, K0⟩
/-- A row of numbers, wherever it begins. -/
def Iz (w : World) (a : Option Addr) (cap : Nat) (xs : List Int) : Prop :=
  xs.length ≤ cap ∧ cap ≤ 9223372036854775807 ∧ (xs = [] ∨ ∃ g o, a = some ⟨g, o, none⟩ ∧ ∀ i v, xs[i]? = some v → w.cell? ⟨g, o + i, none⟩ = some (.int .i64 v))
theorem Iz.keep {S : Nat → Prop} {w w' : World} {a : Option Addr} {cap : Nat} {l : List Int} (h : Iz w a cap l) (k : Keep S w w') (hs : ∀ g o, a = some ⟨g, o, none⟩ → l ≠ [] → ¬ S g) : Iz w' a cap l := by
  obtain ⟨h1, h2, h3⟩ := h
  by_cases hl : l = []
  · exact ⟨h1, h2, Or.inl hl⟩
  refine ⟨h1, h2, h3.imp id ?_⟩
  rintro ⟨g, o, rfl, hc⟩
  refine ⟨g, o, rfl, fun i p hp => ?_⟩
  have c0 := hc i p hp
  have hb := World.block_lt_of_cell? w _ c0
  rw [← c0]
  exact World.cell?_of_block (w := w) (a := ⟨g, o + i, none⟩) (k.block g hb (hs g o rfl hl))
theorem Iz.more {w w' : World} {a : Option Addr} {cap : Nat} {l : List Int} (h : Iz w a cap l) (k : Keep (fun _ => False) w w') : Iz w' a cap l := h.keep k (fun _ _ _ _ e => e)
theorem Iz.at {w : World} {a : Option Addr} {cap : Nat} {l : List Int} (h : Iz w a cap l) {i : Nat} {v : Int} (hv : l[i]? = some v) : ∃ g o, a = some ⟨g, o, none⟩ ∧ w.cell? ⟨g, o + i, none⟩ = some (.int .i64 v) := by
  rcases h.2.2 with rfl | ⟨g, o, rfl, hc⟩
  · simp at hv
  · exact ⟨g, o, rfl, hc i v hv⟩
theorem Is.iz {w : World} {a : Option Addr} {cap : Nat} {l : List Int} (h : Is w a cap l) : Iz w a cap l := by
  obtain ⟨h1, h2, h3⟩ := h
  refine ⟨h1, h2, h3.imp id ?_⟩
  rintro ⟨g, rfl, hc⟩
  refine ⟨g, 0, rfl, fun i v hv => ?_⟩
  rw [Nat.zero_add]
  exact hc i _ (by simp [ic, hv])
theorem get_int {l : List Int} {i : Nat} (h : i < l.length) : ∃ v, l[i]? = some v := ⟨_, List.getElem?_eq_getElem h⟩
theorem Keep.belowB {S : Nat → Prop} {w w' : World} (h : Keep S w w') {B : Nat} (hB : B ≤ w.heap.size) (hS : ∀ k, S k → B ≤ k) : Below B w w' :=
  ⟨h.os, h.tape, h.output, h.size, fun k hk => h.block k (by omega) (fun e => by have := hS k e; omega)⟩
theorem bytes35 : Try.prog.bytesOf 39 = 24 := by kernel_rfl
/-- An argument that is a row of runs: its shape, too. -/
theorem open_runsX {H : Type} {enc : TypeId × Value → H} {W : World} {a : Option Addr} {len cap : Nat} {d : DataW H} {p : List MemPlace}
    (h : DataW.Trod enc Try.prog W 0 (fun _ => true) true 27 (.slice a len cap) d p) :
    ∃ _ : Unit, Rows3 W a len cap ∧ ((d = .nil ∧ len = 0) ∨ ∃ el sp, d = .slice el sp ∧ el.length = len ∧ len ≤ cap) := by
  refine ⟨(), open_rows32 h, ?_⟩
  obtain ⟨fuel, hf⟩ := h
  rcases Deep.open_slice Try.underlying27 hf with ⟨hcs, hx⟩ | ⟨ad, l, c, m, n, D, Pl, hcs, _, hl, hm, hmm, hx, hi⟩
  · simp [Value.cells] at hcs
    simp only [Prod.mk.injEq] at hx
    exact Or.inl ⟨hx.1, hcs.2.1⟩
  · simp [Value.cells] at hcs
    obtain ⟨rfl, rfl, rfl⟩ := hcs
    simp only [Prod.mk.injEq] at hx
    exact Or.inr ⟨_, _, hx.1, by simp, hl⟩
end Tg
end Go.Proofs.Ytojkiambkgkecaa
