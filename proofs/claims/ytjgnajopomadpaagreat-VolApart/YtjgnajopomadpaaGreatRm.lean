/-
  Volumes made one behind the other, read, renamed, deleted (mathematics).
-/
import Derived.Test.YtjgnajopomadpaaGreatRj
namespace Go.Proofs.YtjgnajopomadpaaGreat
open Go.ChangeShapes Go.WideShapes Go.ChangeAt Go.RowKit
namespace Tg
open Qm Crc
/-- A volume that the law made: its number, its sectors. -/
structure Mk where
  i : Nat
  f : Nat
  n : Nat
/-- A name, as made or as renamed. -/
def vnL (r : Bool) (i : Nat) : List Int := if r then [119, 118, 48 + i] else [118, 48 + i]
def vn (r : Bool) (i : Nat) : ByteArray := strOfNums (vnL r i)
theorem vnL_b8 (r : Bool) {i : Nat} (h : i < 6) : B8 (vnL r i) := by
  intro x hx
  cases r <;> simp [vnL] at hx <;> omega
theorem vn_inj {r r' : Bool} {i i' : Nat} (h : i < 6) (h' : i' < 6) (e : vn r i = vn r' i') : r = r' ∧ i = i' := by
  have := str_inj (vnL_b8 r h) (vnL_b8 r' h') e
  cases r <;> cases r' <;> simp [vnL] at this ⊢ <;> omega
theorem vn_good (r : Bool) {i : Nat} (h : i < 6) : goodS (bs (vn r i)) = true := by
  rcases (by omega : i = 0 ∨ i = 1 ∨ i = 2 ∨ i = 3 ∨ i = 4 ∨ i = 5) with rfl | rfl | rfl | rfl | rfl | rfl <;> cases r <;> decide +kernel
theorem vn_size (r : Bool) (i : Nat) : (vn r i).size ≤ 9223372036854775807 := by
  unfold vn
  rw [strOfNums_size]
  cases r <;> simp [vnL]
theorem vn_nums (r : Bool) {i : Nat} (h : i < 6) : nums (vn r i) = vnL r i := nums_str (vnL_b8 r h)
/-- The places: the first d are free again, the first r are renamed. -/
def st (L : List Mk) (r d : Nat) (j : Nat) : Option En := if j < d then none else (L[j]?).map fun m => ⟨vnL (decide (j < r)) m.i, m.f, m.n, j⟩
/-- One behind the other. -/
def Cont : Nat → List Mk → Prop
  | _, [] => True
  | a, m :: r => m.f = a ∧ 1 ≤ m.n ∧ Cont (a + m.n) r
def endP : Nat → List Mk → Nat
  | a, [] => a
  | a, m :: r => endP (a + m.n) r
theorem endP_le : ∀ (a : Nat) (L : List Mk), a ≤ endP a L
  | _, [] => Nat.le_refl _
  | a, m :: r => Nat.le_trans (Nat.le_add_right _ _) (endP_le (a + m.n) r)
theorem endP_app : ∀ (a : Nat) (L : List Mk) (m : Mk), endP a (L ++ [m]) = endP a L + m.n
  | _, [], _ => rfl
  | a, x :: r, m => endP_app (a + x.n) r m
theorem cont_app : ∀ (a : Nat) (L : List Mk) (m : Mk), Cont a L → m.f = endP a L → 1 ≤ m.n → Cont a (L ++ [m])
  | _, [], _, _, h, h1 => ⟨h, h1, trivial⟩
  | a, x :: r, m, hc, h, h1 => ⟨hc.1, hc.2.1, cont_app (a + x.n) r m hc.2.2 h h1⟩
theorem cont_mem : ∀ (a : Nat) (L : List Mk), Cont a L → ∀ m ∈ L, a ≤ m.f ∧ m.f + m.n ≤ endP a L ∧ 1 ≤ m.n
  | _, [], _, _, h => by cases h
  | a, x :: r, hc, m, h => by
    rcases List.mem_cons.1 h with rfl | h
    · exact ⟨Nat.le_of_eq hc.1.symm, by rw [hc.1]; exact endP_le _ _, hc.2.1⟩
    · have := cont_mem (a + x.n) r hc.2.2 m h
      exact ⟨by omega, this.2.1, this.2.2⟩
/-- Each sector up to the end belongs to one of them. -/
theorem cont_cover : ∀ (a : Nat) (L : List Mk), Cont a L → ∀ b, a ≤ b → b < endP a L → ∃ m ∈ L, m.f ≤ b ∧ b < m.f + m.n
  | a, [], _, b, h1, h2 => by have h2 : b < a := h2; omega
  | a, x :: r, hc, b, h1, h2 => by
    by_cases c : b < a + x.n
    · exact ⟨x, by simp, by rw [hc.1]; exact h1, by rw [hc.1]; exact c⟩
    · obtain ⟨m, hm, h3⟩ := cont_cover (a + x.n) r hc.2.2 b (by omega) h2
      exact ⟨m, by simp [hm], h3⟩
theorem cont_apart : ∀ (a : Nat) (L : List Mk), Cont a L → ∀ (j k : Nat) (m m' : Mk), j < k → L[j]? = some m → L[k]? = some m' → m.f + m.n ≤ m'.f
  | _, [], _, _, _, _, _, _, h, _ => by cases h
  | a, x :: r, hc, 0, k + 1, m, m', _, h1, h2 => by
    have h1 : x = m := by simpa using h1
    have h2 : r[k]? = some m' := by simpa using h2
    subst h1
    have := (cont_mem (a + x.n) r hc.2.2 m' (List.mem_of_getElem? h2)).1
    rw [hc.1]; exact this
  | a, x :: r, hc, j + 1, k + 1, m, m', h, h1, h2 => cont_apart (a + x.n) r hc.2.2 j k m m' (by omega) (by simpa using h1) (by simpa using h2)
/-- What is so of the volumes made. -/
structure Wf (N : Nat) (L : List Mk) : Prop where
  c : Cont 8 L
  e : endP 8 L ≤ N
  i6 : ∀ m ∈ L, m.i < 6
  inc : ∀ (j k : Nat) (m m' : Mk), j < k → L[j]? = some m → L[k]? = some m' → m.i < m'.i
  len6 : L.length ≤ 6
/-- Their bytes. -/
def By (cf : Nat → Nat → List Int) (L : List Mk) (l : List Int) : Prop := ∀ m ∈ L, rdL l m.f m.n = cf m.i m.n
theorem st_some {L : List Mk} {r d j : Nat} {e : En} (h : st L r d j = some e) : d ≤ j ∧ ∃ m, L[j]? = some m ∧ e = ⟨vnL (decide (j < r)) m.i, m.f, m.n, j⟩ := by
  unfold st at h
  split at h
  · cases h
  · cases hm : L[j]? with
    | none => rw [hm] at h; cases h
    | some m =>
      rw [hm] at h
      injection h with h
      exact ⟨by omega, m, rfl, h.symm⟩
theorem st_at {L : List Mk} {r d j : Nat} {m : Mk} (h : L[j]? = some m) (hd : d ≤ j) : st L r d j = some ⟨vnL (decide (j < r)) m.i, m.f, m.n, j⟩ := by
  unfold st
  rw [if_neg (by omega), h]
  rfl
theorem st_app (L : List Mk) (m : Mk) : upd (st L 0 0) L.length (some ⟨vnL false m.i, m.f, m.n, L.length⟩) = st (L ++ [m]) 0 0 := by
  funext j
  unfold upd st
  rw [if_neg (by omega : ¬ j < 0)]
  by_cases c : j = L.length
  · rw [if_pos c, c, List.getElem?_append_right (Nat.le_refl _), Nat.sub_self]
    simp
  · rw [if_neg c]
    by_cases c2 : j < L.length
    · rw [List.getElem?_append_left c2, if_neg (by omega)]
    · rw [List.getElem?_eq_none (by omega), List.getElem?_eq_none (by rw [List.length_append]; simp; omega), if_neg (by omega)]
theorem st_ren {L : List Mk} {k : Nat} {m : Mk} (h : L[k]? = some m) : upd (st L k 0) k (some ⟨vnL true m.i, m.f, m.n, k⟩) = st L (k + 1) 0 := by
  funext j
  unfold upd st
  rw [if_neg (by omega : ¬ j < 0)]
  by_cases c : j = k
  · subst c
    rw [if_pos rfl, h]
    simp
  · rw [if_neg c, if_neg (by omega : ¬ j < 0)]
    cases L[j]? with
    | none => rfl
    | some x =>
      have : decide (j < k) = decide (j < k + 1) := by rw [decide_eq_decide]; omega
      rw [this]
theorem st_del {L : List Mk} {k r : Nat} : upd (st L r k) k none = st L r (k + 1) := by
  funext j
  unfold upd st
  by_cases c : j = k
  · rw [if_pos c, if_pos (by omega)]
  · rw [if_neg c]
    by_cases c2 : j < k
    · rw [if_pos c2, if_pos (by omega)]
    · rw [if_neg c2, if_neg (by omega)]
theorem st_end (L : List Mk) (r : Nat) {j : Nat} : st L r L.length j = none := by
  unfold st
  split
  · rfl
  · rw [List.getElem?_eq_none (by omega)]; rfl
theorem st_none (L : List Mk) (r : Nat) : lst (st L r L.length) = [] := by
  unfold lst
  rw [List.filterMap_eq_nil_iff]
  intro j _
  exact st_end L r
section
variable {N : Nat} {L : List Mk} {l : List Int}
/-- The volume of a name. -/
theorem Wf.of (h : Wf N L) {r d j : Nat} (hs : Sp N (st L r d)) {m : Mk} (hm : L[j]? = some m) (hd : d ≤ j) : volOf (lst (st L r d)) (vn (decide (j < r)) m.i) = some ⟨vnL (decide (j < r)) m.i, m.f, m.n, j⟩ :=
  hs.yes.2 ⟨j, by have := (List.getElem?_eq_some_iff.1 hm).1; have := h.len6; omega, st_at hm hd, rfl⟩
theorem Wf.no (h : Wf N L) {r d i : Nat} {b : Bool} (hi : i < 6) (hx : ∀ j m, d ≤ j → L[j]? = some m → ¬ (decide (j < r) = b ∧ m.i = i)) : volOf (lst (st L r d)) (vn b i) = none := by
  refine no_lst.2 (fun j hj e he hn => ?_)
  obtain ⟨hd, m, hm, rfl⟩ := st_some he
  exact hx j m hd hm (vn_inj (h.i6 m (List.mem_of_getElem? hm)) hi hn)
/-- What is written to an entry, or behind the volumes, leaves their bytes. -/
theorem By.entry {cf : Nat → Nat → List Int} (h : Wf N L) (hb : By cf L l) (hl : l.length = N * 32) {j : Nat} (hj : j < 8) (hN : 8 ≤ N) (d : List Int) : By cf L (wrL l j 1 d) := fun m hm => by
  have := cont_mem 8 L h.c m hm
  rw [rd_other (by rw [hl]; omega) (by omega)]
  exact hb m hm
theorem By.behind {cf : Nat → Nat → List Int} (h : Wf N L) (hb : By cf L l) (hl : l.length = N * 32) {n : Nat} (hN : endP 8 L + n ≤ N) (d : List Int) : By cf L (wrL l (endP 8 L) n d) := fun m hm => by
  have := cont_mem 8 L h.c m hm
  rw [rd_other (by rw [hl]; omega) (by omega)]
  exact hb m hm
theorem Wf.add (h : Wf N L) {i n : Nat} (hi : i < 6) (hnew : ∀ m ∈ L, m.i < i) (h5 : L.length ≤ 5) (hn : 1 ≤ n) (hN : endP 8 L + n ≤ N) : Wf N (L ++ [⟨i, endP 8 L, n⟩]) := by
  refine ⟨cont_app 8 L _ h.c rfl hn, by rw [endP_app]; exact hN, fun m hm => ?_, fun j k m m' hjk h1 h2 => ?_, by rw [List.length_append]; simp; omega⟩
  · rcases List.mem_append.1 hm with hm | hm
    · exact h.i6 m hm
    · have : m = ⟨i, endP 8 L, n⟩ := by simpa using hm
      rw [this]; exact hi
  · by_cases ck : k < L.length
    · rw [List.getElem?_append_left ck] at h2
      rw [List.getElem?_append_left (by omega)] at h1
      exact h.inc j k m m' hjk h1 h2
    · rw [List.getElem?_append_right (by omega)] at h2
      by_cases ck2 : k - L.length = 0
      · rw [ck2] at h2
        have h2 : (⟨i, endP 8 L, n⟩ : Mk) = m' := by simpa using h2
        rw [List.getElem?_append_left (by omega)] at h1
        rw [← h2]
        exact hnew m (List.mem_of_getElem? h1)
      · rw [List.getElem?_eq_none (by simp; omega)] at h2; cases h2
/-- One more. -/
theorem Wf.create (h : Wf N L) (hd : Ds N l (st L 0 0)) {i n : Nat} (hi : i < 6) (hnew : ∀ m ∈ L, m.i < i) (h5 : L.length ≤ 5) (hn : 1 ≤ n ∧ n ≤ 4) :
    (endP 8 L + n ≤ N → createS N l (st L 0 0) (vn false i) n = ⟨wrL (wrL l (endP 8 L) n []) L.length 1 (bytesE (vnL false i) (endP 8 L) n), st (L ++ [⟨i, endP 8 L, n⟩]) 0 0, 0⟩) ∧
    (¬ endP 8 L + n ≤ N → createS N l (st L 0 0) (vn false i) n = ⟨l, st L 0 0, 5⟩) := by
  have hno : volOf (lst (st L 0 0)) (vn false i) = none := h.no hi (fun j m _ hm c => by
    have := hnew m (List.mem_of_getElem? hm)
    omega)
  have hfit : endP 8 L + n ≤ N → Fits N (st L 0 0) n (endP 8 L) := fun hN => ⟨endP_le 8 L, hN, fun j hj e he => by
    obtain ⟨-, m, hm, rfl⟩ := st_some he
    have := (cont_mem 8 L h.c m (List.mem_of_getElem? hm)).2.1
    left
    show (m.f : Int) + m.n ≤ _
    omega⟩
  have hgt : ∀ a, Fits N (st L 0 0) n a → endP 8 L ≤ a := fun a ha => by
    by_cases c : a < endP 8 L
    · exfalso
      obtain ⟨m, hm, h1, h2⟩ := cont_cover 8 L h.c a ha.1 c
      obtain ⟨j, hj⟩ := List.getElem?_of_mem hm
      have := ha.2.2 j (by have := (List.getElem?_eq_some_iff.1 hj).1; omega) _ (st_at hj (Nat.zero_le _))
      rcases this with h3 | h3
      · have h3 : (m.f : Int) + m.n ≤ a := h3; omega
      · have h3 : ((a + n : Nat) : Int) ≤ m.f := h3; omega
    · omega
  have hfree : st L 0 0 L.length = none := by
    unfold st
    rw [if_neg (by omega), List.getElem?_eq_none (Nat.le_refl _)]; rfl
  have htaken : ∀ j, j < L.length → (st L 0 0 j).isSome = true := fun j hj => by
    rw [st_at (List.getElem?_eq_getElem hj) (Nat.zero_le _)]; rfl
  constructor
  · intro hN
    rcases hd.sp.room hn.1 with ⟨-, hr⟩ | ⟨a, j, hr, hj, hsj, hjl, hf, hfl⟩
    · rcases hr with hr | hr
      · have := hr L.length (by omega)
        rw [hfree] at this; cases this
      · exact absurd (hfit hN) (hr _)
    · have ea : a = endP 8 L := by
        have h1 := hgt a hf
        by_cases c : endP 8 L < a
        · exact absurd (hfit hN) (hfl _ c)
        · omega
      have ej : j = L.length := by
        rcases Nat.lt_trichotomy j L.length with c | c | c
        · have := htaken j c; rw [hsj] at this; cases this
        · exact c
        · have := hjl L.length c; rw [hfree] at this; cases this
      subst ea
      subst ej
      have hk := create_ok (l := l) (nm := vn false i) (n := (n : Int)) (vn_good false hi) (by omega) (by rw [hno]; rfl) (show roomL N (lst (st L 0 0)) (n : Int).toNat = some (endP 8 L, (L.length : Int)) by rw [Int.toNat_natCast]; exact hr)
      rw [vn_nums false hi, Int.toNat_natCast, Int.toNat_natCast] at hk
      rw [hk]
      have := st_app L ⟨i, endP 8 L, n⟩
      rw [← this]
  · intro hN
    refine create_full (vn_good false hi) (by omega) (by rw [hno]; rfl) ?_
    rw [Int.toNat_natCast]
    rcases hd.sp.room hn.1 with ⟨hr, -⟩ | ⟨a, j, -, -, -, -, hf, -⟩
    · exact hr
    · have := hgt a hf
      have := hf.2.1
      omega
/-- A volume's place. -/
theorem Wf.place (h : Wf N L) {r d j : Nat} (hs : Sp N (st L r d)) {m : Mk} (hm : L[j]? = some m) (hd : d ≤ j) : placeS (st L r d) (vn (decide (j < r)) m.i) 0 m.n = ((m.f : Int), 0) := by
  have hb := cont_mem 8 _ h.c m (List.mem_of_getElem? hm)
  unfold placeS
  rw [h.of hs hm hd]
  show (if okR (m.n : Int) 0 (m.n : Int) then ((m.f : Int) + 0, (0 : Int)) else (0, 1)) = _
  rw [if_pos (okR_iff.2 ⟨by omega, by omega, by omega⟩), Int.add_zero]
theorem Wf.write (h : Wf N L) {j : Nat} {m : Mk} (hm : L[j]? = some m) (hs : Sp N (st L 0 0)) (d : ByteArray) : writeS l (st L 0 0) (vn false m.i) 0 m.n d = ⟨wrL l m.f m.n (nums d), st L 0 0, 0⟩ := by
  have hp := h.place hs hm (Nat.zero_le _)
  rw [show decide (j < 0) = false from decide_eq_false (by omega)] at hp
  unfold writeS
  rw [hp, if_pos rfl]
  rfl
theorem Wf.read (h : Wf N L) {r d j : Nat} (hs : Sp N (st L r d)) {m : Mk} (hm : L[j]? = some m) (hd : d ≤ j) : readS l (st L r d) (vn (decide (j < r)) m.i) 0 m.n = (rdL l m.f m.n, 0) := by
  unfold readS
  rw [h.place hs hm hd, if_pos rfl]
  rfl
theorem Wf.rename (h : Wf N L) {k : Nat} (hs : Sp N (st L k 0)) {m : Mk} (hm : L[k]? = some m) : renameS l (st L k 0) (vn false m.i) (vn true m.i) = ⟨wrL l k 1 (bytesE (vnL true m.i) m.f m.n), st L (k + 1) 0, 0⟩ := by
  have h6 := h.i6 m (List.mem_of_getElem? hm)
  have hv := h.of hs hm (Nat.zero_le _)
  rw [show decide (k < k) = false from decide_eq_false (by omega)] at hv
  have hno : volOf (lst (st L k 0)) (vn true m.i) = none := h.no h6 (fun j m' _ hm' c => by
    have hj : j < k := of_decide_eq_true c.1
    have := h.inc j k m' m hj hm' hm
    omega)
  unfold renameS
  rw [hv]
  simp only []
  rw [vn_good true h6, if_neg (by decide), hno, if_neg (by simp), vn_nums true h6, ← st_ren hm]
  rfl
theorem Wf.delete (h : Wf N L) {k : Nat} (hs : Sp N (st L L.length k)) {m : Mk} (hm : L[k]? = some m) : deleteS l (st L L.length k) (vn true m.i) = ⟨wrL l k 1 [], st L L.length (k + 1), 0⟩ := by
  have hk := (List.getElem?_eq_some_iff.1 hm).1
  have hv := h.of hs hm (Nat.le_refl _)
  rw [show decide (k < L.length) = true from decide_eq_true hk] at hv
  unfold deleteS
  rw [hv]
  simp only []
  rw [← st_del]
  rfl
theorem lens_st : ∀ (a : Nat) (L : List Mk) (o r : Nat), Cont a L → lensF ((List.range L.length).filterMap (fun j => (L[j]?).map fun m => (⟨vnL (decide (j + o < r)) m.i, m.f, m.n, (j + o : Nat)⟩ : En))) = (endP a L : Int) - a
  | a, [], _, _, _ => by show lensF [] = ((a : Nat) : Int) - a; simp [lensF]
  | a, x :: L, o, r, hc => by
    rw [List.length_cons, List.range_succ_eq_map, List.filterMap_cons]
    have ih := lens_st (a + x.n) L (o + 1) r hc.2.2
    simp only [List.getElem?_cons_zero, Option.map_some, List.filterMap_map]
    show (x.n : Int) + lensF _ = _
    have e : (List.range L.length).filterMap ((fun j => ((x :: L)[j]?).map fun m => (⟨vnL (decide (j + o < r)) m.i, m.f, m.n, (j + o : Nat)⟩ : En)) ∘ Nat.succ) = (List.range L.length).filterMap (fun j => (L[j]?).map fun m => (⟨vnL (decide (j + (o + 1) < r)) m.i, m.f, m.n, (j + (o + 1) : Nat)⟩ : En)) := by
      apply fm_congr2
      intro j _
      show ((x :: L)[j + 1]?).map _ = _
      rw [List.getElem?_cons_succ, show j + 1 + o = j + (o + 1) by omega]
    rw [e, ih]
    show (x.n : Int) + ((endP (a + x.n) L : Int) - ((a + x.n : Nat) : Int)) = (endP (a + x.n) L : Int) - a
    omega
/-- How many sectors they have. -/
theorem Wf.lens (h : Wf N L) : lensF (lst (st L 0 0)) = (endP 8 L : Int) - 8 := by
  have := lens_st 8 L 0 0 h.c
  rw [show (endP 8 L : Int) - 8 = (endP 8 L : Int) - ((8 : Nat) : Int) from rfl, ← this]
  congr 1
  unfold lst
  have h8 : (List.range 8) = List.range L.length ++ (List.range (8 - L.length)).map (L.length + ·) := by
    have := h.len6
    rw [show 8 = L.length + (8 - L.length) by omega, List.range_add]
    simp
  rw [h8, List.filterMap_append]
  have e2 : ((List.range (8 - L.length)).map (L.length + ·)).filterMap (st L 0 0) = [] := by
    rw [List.filterMap_eq_nil_iff]
    intro j hj
    obtain ⟨q, -, rfl⟩ := List.mem_map.1 hj
    unfold st
    rw [if_neg (by omega), List.getElem?_eq_none (by omega)]
    rfl
  rw [e2, List.append_nil]
  apply fm_congr2
  intro j _
  rfl
end
end Tg
end Go.Proofs.YtjgnajopomadpaaGreat
