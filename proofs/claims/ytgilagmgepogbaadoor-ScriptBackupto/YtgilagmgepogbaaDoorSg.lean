/-
  Each command's Text over any memory.
-/
import Derived.Test.YtgilagmgepogbaaDoorSf
set_option linter.unusedVariables false
namespace Go.Proofs.YtgilagmgepogbaaDoor
open Go.ChangeShapes Go.WideShapes Go.ChangeAt Go.RowKit
namespace Tg
open Qm Km

theorem rd_new (w : World) (xs : List Value) (t : TypeId) : Rd (w.alloc (.cells xs.toArray t)) (some ⟨w.heap.size, 0, none⟩) xs :=
  Or.inr ⟨w.heap.size, 0, rfl, fun j u h => by have := new_cell w xs t j u h; rwa [Addr.add_lit] at this⟩
/-- Numbers that an int takes. -/
def I64 (n : Int) : Prop := -9223372036854775808 ≤ n ∧ n ≤ 9223372036854775807
theorem tell_new (N : List Nat) (hN : N.length ≤ 10) (ns : List Int) (hl : ns.length ≤ 2) (hb : ∀ n ∈ ns, I64 n) (cap : Nat) (w : World) (hG : Gt w) (t : TypeId) {A : Array Value} (hA : A = (ics ns).toArray) {m : Nat} (hm : m = ns.length) :
    Calls Tryd.prog 105 #[.string (str N), .slice (some ⟨w.heap.size, 0, none⟩) m cap] (w.alloc (.cells A t)) fun e w' => e = .returned (.string (str (N ++ tls ns))) ∧ Keep (fun _ => False) (w.alloc (.cells A t)) w' := by
  subst hA hm
  exact tell_any N hN ns hl hb _ cap _ (hG.keep ((Keep.refl _ _).alloc _)) (rd_new w (ics ns) t)


set_option maxHeartbeats 400000 in
set_option maxRecDepth 100000 in
theorem text_read (a b : Int) (ha : I64 a) (hb : I64 b) (w : World) (hG : Gt w) : Calls Tryd.prog 106 #[.agg #[.int .i64 a, .int .i64 b]] w fun e w' => e = .returned (.string (str (sRead ++ (32 :: nt a ++ (32 :: nt b))))) ∧ Keep (fun _ => False) w w' := by
  have ht := fun W (h : Gt W) => tell_new sRead (by decide) [a, b] (by simp) (by intro n hn; simp at hn; rcases hn with rfl | rfl; exact ha; exact hb) 2 W h 3 (A := #[.int .i64 a, .int .i64 b]) rfl (m := 2) rfl
  rw [show sRead ++ tls [a, b] = sRead ++ (32 :: nt a ++ (32 :: nt b)) by simp [tls], show str sRead = ⟨#[114, 101, 97, 100]⟩ from rfl] at ht
  have hsz : (w.alloc (.cells #[.int .i64 a, .int .i64 b] 54)).heap.size = w.heap.size + 1 := by simp
  have hG1 : Gt (w.alloc (.cells #[.int .i64 a, .int .i64 b] 54)) := hG.keep ((Keep.refl _ _).alloc _)
  have h1 := ht _ hG1
  rw [hsz] at h1
  clear ht hG1 hG ha hb hsz
  generalize str (sRead ++ (32 :: nt a ++ (32 :: nt b))) = X at *
  go_enter Tryd.func106, Tryd.ntmps106
  go_wp2_with fail
  refine h1.mono ?_
  rintro e w2 ⟨rfl, k2⟩
  go_wp2_with fail
  go_ret
  exact ⟨rfl, (((Keep.refl _ _).alloc _).alloc _).trans k2⟩


set_option maxHeartbeats 400000 in
set_option maxRecDepth 100000 in
theorem text_trim (a b : Int) (ha : I64 a) (hb : I64 b) (w : World) (hG : Gt w) : Calls Tryd.prog 107 #[.agg #[.int .i64 a, .int .i64 b]] w fun e w' => e = .returned (.string (str (sTrim ++ (32 :: nt a ++ (32 :: nt b))))) ∧ Keep (fun _ => False) w w' := by
  have ht := fun W (h : Gt W) => tell_new sTrim (by decide) [a, b] (by simp) (by intro n hn; simp at hn; rcases hn with rfl | rfl; exact ha; exact hb) 2 W h 3 (A := #[.int .i64 a, .int .i64 b]) rfl (m := 2) rfl
  rw [show sTrim ++ tls [a, b] = sTrim ++ (32 :: nt a ++ (32 :: nt b)) by simp [tls], show str sTrim = ⟨#[116, 114, 105, 109]⟩ from rfl] at ht
  have hsz : (w.alloc (.cells #[.int .i64 a, .int .i64 b] 55)).heap.size = w.heap.size + 1 := by simp
  have hG1 : Gt (w.alloc (.cells #[.int .i64 a, .int .i64 b] 55)) := hG.keep ((Keep.refl _ _).alloc _)
  have h1 := ht _ hG1
  rw [hsz] at h1
  clear ht hG1 hG ha hb hsz
  generalize str (sTrim ++ (32 :: nt a ++ (32 :: nt b))) = X at *
  go_enter Tryd.func107, Tryd.ntmps107
  go_wp2_with fail
  refine h1.mono ?_
  rintro e w2 ⟨rfl, k2⟩
  go_wp2_with fail
  go_ret
  exact ⟨rfl, (((Keep.refl _ _).alloc _).alloc _).trans k2⟩


set_option maxHeartbeats 400000 in
set_option maxRecDepth 100000 in
theorem text_cut (a : Int) (ha : I64 a) (w : World) (hG : Gt w) : Calls Tryd.prog 108 #[.agg #[.int .i64 a]] w fun e w' => e = .returned (.string (str (sCut ++ (32 :: nt a)))) ∧ Keep (fun _ => False) w w' := by
  have ht := fun W (h : Gt W) => tell_new sCut (by decide) [a] (by simp) (by intro n hn; simp at hn; rcases hn with rfl; exact ha) 1 W h 3 (A := #[.int .i64 a]) rfl (m := 1) rfl
  rw [show sCut ++ tls [a] = sCut ++ (32 :: nt a) by simp [tls], show str sCut = ⟨#[99, 117, 116]⟩ from rfl] at ht
  have hsz : (w.alloc (.cells #[.int .i64 a] 57)).heap.size = w.heap.size + 1 := by simp
  have hG1 : Gt (w.alloc (.cells #[.int .i64 a] 57)) := hG.keep ((Keep.refl _ _).alloc _)
  have h1 := ht _ hG1
  rw [hsz] at h1
  clear ht hG1 hG ha hsz
  generalize str (sCut ++ (32 :: nt a)) = X at *
  go_enter Tryd.func108, Tryd.ntmps108
  go_wp2_with fail
  refine h1.mono ?_
  rintro e w2 ⟨rfl, k2⟩
  go_wp2_with fail
  go_ret
  exact ⟨rfl, (((Keep.refl _ _).alloc _).alloc _).trans k2⟩


set_option maxHeartbeats 400000 in
set_option maxRecDepth 100000 in
theorem text_fail (a : Int) (ha : I64 a) (w : World) (hG : Gt w) : Calls Tryd.prog 109 #[.agg #[.int .i64 a]] w fun e w' => e = .returned (.string (str (sFail ++ (32 :: nt a)))) ∧ Keep (fun _ => False) w w' := by
  have ht := fun W (h : Gt W) => tell_new sFail (by decide) [a] (by simp) (by intro n hn; simp at hn; rcases hn with rfl; exact ha) 1 W h 3 (A := #[.int .i64 a]) rfl (m := 1) rfl
  rw [show sFail ++ tls [a] = sFail ++ (32 :: nt a) by simp [tls], show str sFail = ⟨#[102, 97, 105, 108]⟩ from rfl] at ht
  have hsz : (w.alloc (.cells #[.int .i64 a] 58)).heap.size = w.heap.size + 1 := by simp
  have hG1 : Gt (w.alloc (.cells #[.int .i64 a] 58)) := hG.keep ((Keep.refl _ _).alloc _)
  have h1 := ht _ hG1
  rw [hsz] at h1
  clear ht hG1 hG ha hsz
  generalize str (sFail ++ (32 :: nt a)) = X at *
  go_enter Tryd.func109, Tryd.ntmps109
  go_wp2_with fail
  refine h1.mono ?_
  rintro e w2 ⟨rfl, k2⟩
  go_wp2_with fail
  go_ret
  exact ⟨rfl, (((Keep.refl _ _).alloc _).alloc _).trans k2⟩


set_option maxHeartbeats 400000 in
set_option maxRecDepth 100000 in
theorem text_mount (a : Int) (ha : I64 a) (w : World) (hG : Gt w) : Calls Tryd.prog 110 #[.agg #[.int .i64 a]] w fun e w' => e = .returned (.string (str (if a = -1 then sMount else sMount ++ (32 :: nt a)))) ∧ Keep (fun _ => False) w w' := by
  by_cases h : a = -1
  · subst h
    rw [if_pos rfl, show str sMount = ⟨#[109, 111, 117, 110, 116]⟩ from rfl]
    clear hG ha
    go_enter Tryd.func110, Tryd.ntmps110
    go_wp2_with fail
    go_ret
    exact ⟨rfl, (Keep.refl _ _).alloc _⟩
  · rw [if_neg h]
    have ht := fun W (h : Gt W) => tell_new sMount (by decide) [a] (by simp) (by intro n hn; simp at hn; rcases hn with rfl; exact ha) 1 W h 3 (A := #[.int .i64 a]) rfl (m := 1) rfl
    rw [show sMount ++ tls [a] = sMount ++ (32 :: nt a) by simp [tls], show str sMount = ⟨#[109, 111, 117, 110, 116]⟩ from rfl] at ht
    have hsz : (w.alloc (.cells #[.int .i64 a] 59)).heap.size = w.heap.size + 1 := by simp
    have hG1 : Gt (w.alloc (.cells #[.int .i64 a] 59)) := hG.keep ((Keep.refl _ _).alloc _)
    have h1 := ht _ hG1
    rw [hsz] at h1
    have h2 : (a == -1) = false := by rw [beq_eq_false_iff_ne]; exact h
    clear ht hG1 hG ha hsz
    generalize str (sMount ++ (32 :: nt a)) = X at *
    go_enter Tryd.func110, Tryd.ntmps110
    go_wp2_with fail
    refine h1.mono ?_
    rintro e w2 ⟨rfl, k2⟩
    go_wp2_with fail
    go_ret
    exact ⟨rfl, (((Keep.refl _ _).alloc _).alloc _).trans k2⟩
set_option maxRecDepth 100000 in
theorem text_show (w : World) : Calls Tryd.prog 111 #[.agg #[]] w fun e w' => e = .returned (.string (str sShow)) ∧ Keep (fun _ => False) w w' := by
  rw [show str sShow = ⟨#[115, 104, 111, 119]⟩ from rfl]
  go_enter Tryd.func111, Tryd.ntmps111
  go_wp2_with fail
  go_ret
  exact ⟨rfl, (Keep.refl _ _).alloc _⟩
set_option maxRecDepth 100000 in
theorem text_stat (w : World) : Calls Tryd.prog 112 #[.agg #[]] w fun e w' => e = .returned (.string (str sStat)) ∧ Keep (fun _ => False) w w' := by
  rw [show str sStat = ⟨#[115, 116, 97, 116]⟩ from rfl]
  go_enter Tryd.func112, Tryd.ntmps112
  go_wp2_with fail
  go_ret
  exact ⟨rfl, (Keep.refl _ _).alloc _⟩

end Tg
end Go.Proofs.YtgilagmgepogbaaDoor
