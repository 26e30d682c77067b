/-
  The document's own Find, Free, Shadowed.
-/
import Derived.Test.YtjgnajopomadpaaGreatPg
namespace Go.Proofs.YtjgnajopomadpaaGreat
open Go.ChangeShapes Go.WideShapes Go.ChangeAt Go.RowKit
namespace Tg
open Qm
/-- Entries that are read. -/
def Er (w : World) (a : Option Addr) (l : List En) : Prop := ∀ (k : Nat) (x : En), l[k]? = some x → ∃ g o, a = some ⟨g, o, none⟩ ∧ w.cell? ⟨g, o + k * 4, none⟩ = some (.string (strOfNums x.nm)) ∧ w.cell? ⟨g, o + k * 4 + 1, none⟩ = some (.int .i64 x.f) ∧ w.cell? ⟨g, o + k * 4 + 2, none⟩ = some (.int .i64 x.n) ∧ w.cell? ⟨g, o + k * 4 + 3, none⟩ = some (.int .i64 x.i)
theorem Ev.er {w0 w : World} {a : Option Addr} {cap : Nat} {l : List En} (h : Ev w0 w a cap l) : Er w a l := fun _ _ hx => h.at hx
theorem Er.keep {w w' : World} {a : Option Addr} {l : List En} (h : Er w a l) (k : Keep (fun _ => False) w w') : Er w' a l := fun j x hx => by
  obtain ⟨g, o, e, h0, h1, h2, h3⟩ := h j x hx
  have key : ∀ {off v}, w.cell? ⟨g, off, none⟩ = some v → w'.cell? ⟨g, off, none⟩ = some v := fun {off v} hc => by
    rw [← hc]
    exact World.cell?_of_block (w := w) (a := ⟨g, off, none⟩) (k.block g (World.block_lt_of_cell? w _ hc) (fun e => e))
  exact ⟨g, o, e, key h0, key h1, key h2, key h3⟩
/-- A volume's place in the list, from k on; -1: there is none. -/
def findF (s : ByteArray) : List En → Nat → Int
  | [], _ => -1
  | x :: r, k => if strOfNums x.nm = s then (k : Int) else findF s r (k + 1)
theorem findF_drop {s : ByteArray} {l : List En} {i : Nat} {x : En} (hx : l[i]? = some x) : findF s (l.drop i) i = if strOfNums x.nm = s then (i : Int) else findF s (l.drop (i + 1)) (i + 1) := by
  obtain ⟨hi, e⟩ := List.getElem?_eq_some_iff.1 hx
  rw [List.drop_eq_getElem_cons hi, e]
  rfl
set_option maxRecDepth 100000 in
set_option maxHeartbeats 1000000 in
theorem find25 {w : World} {a : Option Addr} {l : List En} (h : Er w a l) (hl : l.length ≤ 1000) (cap : Nat) (s : ByteArray) :
    Calls Tryz.prog 66 #[.slice a l.length cap, .string s] w fun e w' => e = .returned (.int .i64 (findF s l 0)) ∧ w' = w := by
  obtain ⟨n, hn⟩ : ∃ n, n = l.length := ⟨_, rfl⟩
  obtain ⟨F, hF⟩ : ∃ F, RowKit.Hid (F = findF s l 0) := ⟨_, rfl⟩
  rw [← hF.out, ← hn]
  have hn' : RowKit.Hid (n = l.length ∧ n ≤ 1000) := ⟨hn, by omega⟩
  have hE : RowKit.Hid (Er w a l) := h
  clear hl hn h
  go_enter Tryz.func66, Tryz.ntmps66
  go_wp2_with fail
  go_loopw [5] (fun v wx => ∃ i : Nat, v = .int .i64 (i : Int) ∧ RowKit.Hid (i ≤ n ∧ F = findF s (l.drop i) i) ∧ wx = w) (fun v _ => n - (intOf v).toNat)
  case atStart => exact ⟨0, rfl, ⟨by omega, hF.out⟩, rfl⟩
  case round =>
    clear hF
    obtain ⟨i, rfl, hi, rfl⟩ := hrel
    by_cases hin : i = n
    · have hFF : RowKit.Hid (F = -1) := by
        show F = -1
        rw [hi.out.2, hin, hn'.out.1, List.drop_length]
        rfl
      have hge : ¬ (i : Int) < n := by omega
      clear hi hn' hE hin
      go_wp2_with fail
      go_ret
      exact ⟨by rw [hFF.out]; rfl, rfl⟩
    · have hlt : (i : Int) < n := by have := hi.out.1; omega
      obtain ⟨x, hx⟩ : ∃ x, l[i]? = some x := ⟨_, List.getElem?_eq_getElem (by have := hn'.out; omega)⟩
      obtain ⟨g, o, rfl, z0, -, -, -⟩ := hE.out i x hx
      have hst := findF_drop (s := s) hx
      have hw : IntKind.i64.wrap ((i : Int) + 1) = ((i + 1 : Nat) : Int) := by rw [show (i : Int) + 1 = ((i + 1 : Nat) : Int) by omega]; exact wrapI (by omega) (by have := hn'.out; omega)
      generalize strOfNums x.nm = xs at *
      have hcmp := ba_eq xs s
      by_cases c : xs = s
      · have q : (xs.toList == s.toList) = true := by rw [hcmp, decide_eq_true c]
        have hFF : RowKit.Hid (F = i) := by show F = i; rw [hi.out.2, hst, if_pos c]
        clear hi hn' hE hin hx hst hcmp c
        go_wp2_with fail
        go_ret
        exact ⟨by rw [hFF.out]; rfl, rfl⟩
      · have q : (xs.toList == s.toList) = false := by rw [hcmp, decide_eq_false c]
        have hnx : RowKit.Hid (i + 1 ≤ n ∧ F = findF s (l.drop (i + 1)) (i + 1)) := ⟨by have := hi.out.1; omega, by rw [hi.out.2, hst, if_neg c]⟩
        clear hi hn' hE hin hx hst hcmp c
        go_wp2_with fail
        go_roundw
        case rel => exact ⟨i + 1, rfl, hnx, by first | trivial | rfl⟩
        case measure => simp [intOf]; omega
/-- How many sectors volumes have. -/
def lensF : List En → Int
  | [] => 0
  | x :: r => x.n + lensF r
theorem lensF_take {l : List En} {i : Nat} {x : En} (hx : l[i]? = some x) : lensF (l.take (i + 1)) = lensF (l.take i) + x.n := by
  induction l generalizing i with
  | nil => simp at hx
  | cons y l ih =>
    cases i with
    | zero => have : y = x := by simpa using hx
              subst this; simp [lensF]
    | succ i => have := ih (i := i) (by simpa using hx)
                simp only [List.take_succ_cons, lensF, this]; omega
theorem lensF_bd {l : List En} {N : Int} (h : ∀ x ∈ l, x.Ok N) : 0 ≤ lensF l ∧ lensF l ≤ l.length * N := by
  induction l with
  | nil => simp [lensF]
  | cons y l ih =>
    have h1 := ih (fun x hx => h x (by simp [hx]))
    have hy := h y (by simp)
    have hf := hy.f; have hn := hy.n; have hfn := hy.fn
    simp only [lensF, List.length_cons]
    have e : ((l.length + 1 : Nat) : Int) * N = l.length * N + N := by rw [Int.natCast_add, Int.add_mul]; simp
    omega
set_option maxRecDepth 100000 in
set_option maxHeartbeats 1000000 in
theorem free25 {l : List Int} (hl8 : B8 l) {N : Nat} (hl : l.length = N * 32) (hN : 9 ≤ N ∧ N ≤ 512) (w : World) :
    Calls Tryz.prog 45 #[.string (strOfNums l)] w fun e w' => e = .returned (.int .i64 (N - 8 - lensF (volL N l))) ∧ Keep (fun _ => False) w w' := by
  have hvol := volumes25 hl8 hl hN
  have hcap := cap_any (s := strOfNums l) (N := N) (by rw [strOfNums_size, hl]) hN.2 w
  obtain ⟨h1, h2⟩ := volK_ok hl8 hl (by omega : 8 ≤ N) 8 (Nat.le_refl _)
  have h1 : (volL N l).length ≤ 8 := h1
  have h2 : ∀ e ∈ volL N l, e.Ok N := h2
  generalize volL N l = V at *
  obtain ⟨F, hF⟩ : ∃ F, RowKit.Hid (F = N - 8 - lensF V) := ⟨_, rfl⟩
  rw [← hF.out]
  obtain ⟨n, hn⟩ : ∃ n, n = V.length := ⟨_, rfl⟩
  have hvol : RowKit.Hid (∀ wx, Calls Tryz.prog 44 #[.string (strOfNums l)] wx fun e w' => ∃ a cap, e = .returned (.slice a n cap) ∧ Ev wx w' a cap V) := by rw [hn]; exact hvol
  have hn' : RowKit.Hid (n = V.length ∧ n ≤ 8 ∧ 9 ≤ N ∧ N ≤ 512) := ⟨hn, by omega, by omega, by omega⟩
  have hok : RowKit.Hid (∀ e ∈ V, e.Ok N) := h2
  have hw8 := wrapI (x := (N : Int) - 8) (by omega) (by omega)
  generalize strOfNums l = T at *
  clear hl8 hl hN hn h1 h2
  go_enter Tryz.func45, Tryz.ntmps45
  go_wp2_with fail
  refine hcap.mono ?_
  rintro e wz ⟨rfl, ez⟩; subst ez
  go_wp2_with fail
  refine (hvol.out _).mono ?_
  rintro e w2 ⟨a, cap, rfl, E2⟩
  have E2' : RowKit.Hid (Ev wz w2 a cap V) := E2
  clear hcap hvol E2
  go_wp2_with fail
  go_loopw [3, 5] (fun sv v wx => ∃ (i : Nat) (S : Int), sv = .int .i64 S ∧ v = .int .i64 (i : Int) ∧ RowKit.Hid (i ≤ n ∧ S = N - 8 - lensF (V.take i)) ∧ RowKit.Hid (wx = w2)) (fun _ v _ => n - (intOf v).toNat)
  case atStart => exact ⟨0, _, rfl, rfl, ⟨by omega, by simp [lensF]⟩, rfl⟩
  case round =>
    clear hw8
    obtain ⟨i, S, rfl, rfl, hi, hwe⟩ := hrel
    by_cases hin : i = n
    · have hFF : RowKit.Hid (F = S) := by
        show F = S
        rw [hF.out, hi.out.2, hin, hn'.out.1, List.take_length]
      have hK : RowKit.Hid (Keep (fun _ => False) wz wr) := by show Keep _ _ wr; rw [hwe.out]; exact E2'.out.keep
      have hge : ¬ (i : Int) < n := by omega
      clear hi hn' hF hin hok E2' hwe
      go_wp2_with fail
      go_ret
      exact ⟨by rw [hFF.out]; rfl, hK⟩
    · have hlt : (i : Int) < n := by have := hi.out.1; omega
      obtain ⟨x, hx⟩ : ∃ x, V[i]? = some x := ⟨_, List.getElem?_eq_getElem (by have := hn'.out; omega)⟩
      have E3 : Er wr a V := by rw [hwe.out]; exact E2'.out.er
      obtain ⟨g, o, eg, -, -, z2, -⟩ := E3 i x hx
      have hst := lensF_take hx
      have hbd := lensF_bd (l := V.take i) (N := N) (fun y hy => hok.out y (List.mem_of_mem_take hy))
      have hxo := hok.out x (List.mem_of_getElem? hx)
      have hxf := hxo.f; have hxn := hxo.n; have hxfn := hxo.fn
      have hle : ((V.take i).length : Int) * N ≤ 8 * 512 := by
        have h5 := hn'.out
        have : (V.take i).length ≤ 8 := by rw [List.length_take]; omega
        exact_mod_cast Nat.mul_le_mul this h5.2.2.2
      have hw : IntKind.i64.wrap ((i : Int) + 1) = ((i + 1 : Nat) : Int) := by rw [show (i : Int) + 1 = ((i + 1 : Nat) : Int) by omega]; exact wrapI (by omega) (by have := hn'.out; omega)
      have hS : S = N - 8 - lensF (V.take i) := hi.out.2
      have hw2 := wrapI (x := S - x.n) (by have := hn'.out; omega) (by have := hn'.out; omega)
      have hnx : RowKit.Hid (i + 1 ≤ n ∧ S - x.n = N - 8 - lensF (V.take (i + 1))) := ⟨by have := hi.out.1; omega, by omega⟩
      clear hi hn' hok hin hx hst E3 hbd hxo hle hS hF hxf hxn hxfn E2'
      subst eg
      go_wp2_with fail
      go_roundw
      case rel => exact ⟨i + 1, _, rfl, rfl, hnx, hwe⟩
      case measure => simp [intOf]; omega
end Tg
end Go.Proofs.YtjgnajopomadpaaGreat
