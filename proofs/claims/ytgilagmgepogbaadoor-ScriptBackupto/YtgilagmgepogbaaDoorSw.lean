/-
  Each command's Text over any memory.
-/
import Derived.Test.YtgilagmgepogbaaDoorSg
import Derived.Deep.RegionHeld3
set_option linter.unusedVariables false
namespace Go.Proofs.YtgilagmgepogbaaDoor
open Go.ChangeShapes Go.WideShapes Go.ChangeAt Go.RowKit
namespace Tg
open Qm Km

set_option maxHeartbeats 600000 in
set_option maxRecDepth 100000 in
theorem text_write (a b : Int) (ha : I64 a) (hb : I64 b) (d : ByteArray) (hd : d.size ≤ 35184372088000) (w : World) (hG : Gt w) : Calls Tryd.prog 104 #[.agg #[.int .i64 a, .int .i64 b, .string d]] w fun e w' => e = .returned (.string (str (sWrite ++ (32 :: nt a ++ (32 :: nt b ++ (32 :: told (bs d))))))) ∧ Keep (fun _ => False) w w' := by
  have ht := fun W (h : Gt W) => tell_new sWrite (by decide) [a, b] (by simp) (by intro n hn; simp at hn; rcases hn with rfl | rfl; exact ha; exact hb) 2 W h 3 (A := #[.int .i64 a, .int .i64 b]) rfl (m := 2) rfl
  have ht' := fun W (h : Gt W) (A : Option Addr) (hR : Rd W A (ics [a, b])) => tell_any sWrite (by decide) [a, b] (by simp) (by intro n hn; simp at hn; rcases hn with rfl | rfl; exact ha; exact hb) A 2 W h hR
  have e1 : sWrite ++ tls [a, b] = sWrite ++ (32 :: nt a ++ (32 :: nt b)) := by simp [tls]
  have l1 := nt_len ha.1 ha.2; have l2 := nt_len hb.1 hb.2
  rw [e1, show str sWrite = ⟨#[119, 114, 105, 116, 101]⟩ from rfl] at ht ht'
  have hq := fun W => quote_any d hd W
  have HE : Hid (str (sWrite ++ (32 :: nt a ++ (32 :: nt b))) ++ (⟨#[32]⟩ : ByteArray) ++ str (told (bs d)) = str (sWrite ++ (32 :: nt a ++ (32 :: nt b ++ (32 :: told (bs d)))))) := by
    show _ = _
    rw [show (⟨#[32]⟩ : ByteArray) = str [32] from rfl, str_append, str_append]
    simp
  have hs1 : (str (sWrite ++ (32 :: nt a ++ (32 :: nt b)))).size ≤ 100 := by
    rw [str_size]; simp [sWrite]; omega
  have hs2 : (str (told (bs d))).size ≤ 4 * d.size + 10 := by
    rw [str_size, told_len]
    have : (body (bs d)).length ≤ 4 * (bs d).length := by
      refine list_ind (P := fun l => (body l).length ≤ 4 * l.length) (by rw [body_nil]; simp) (fun l hne ih => ?_) (bs d)
      rw [body_cons hne, List.length_append]
      have h1 := piece_len (l := l); have h2 := piece_pos hne
      rw [List.length_drop] at ih
      omega
    rw [bs_len] at this
    omega
  rw [← HE.out]
  generalize str (sWrite ++ (32 :: nt a ++ (32 :: nt b))) = X at *
  generalize str (told (bs d)) = Y at *
  have HG : Hid (Gt w) := hG
  have j1 : ¬ 9223372036854775807 < X.size + 1 := by omega
  have j2 : ¬ 9223372036854775807 < X.size + 1 + Y.size := by omega
  clear hG ha hb hs1 hs2 l1 l2 HE e1 hd
  have ht1 := ht (w.alloc (.cells #[.int .i64 a, .int .i64 b, .string d] 51)).drew
  rw [show (w.alloc (.cells #[.int .i64 a, .int .i64 b, .string d] 51)).drew.heap.size = w.heap.size + 1 by simp] at ht1
  have ht2 : ∀ {W : World}, Keep (fun _ => False) ((w.alloc (.cells #[.int .i64 a, .int .i64 b, .string d] 51)).drew.alloc (.cells #[.int .i64 a, .int .i64 b] 3)) W → Rd W (some ⟨w.heap.size + 1, 0, none⟩) (ics [a, b]) := fun k => by
    have := (rd_new (w.alloc (.cells #[.int .i64 a, .int .i64 b, .string d] 51)).drew (ics [a, b]) 3).keep k
    rwa [show (w.alloc (.cells #[.int .i64 a, .int .i64 b, .string d] 51)).drew.heap.size = w.heap.size + 1 by simp] at this
  go_enter Tryd.func104, Tryd.ntmps104
  go_wp2_with fail
  have K0 : Keep (fun _ => False) (w.alloc (.cells #[.int .i64 a, .int .i64 b, .string d] 51)) (w.alloc (.cells #[.int .i64 a, .int .i64 b, .string d] 51)).drew := (Keep.refl _ _).drew
  have Hc : Hid (∀ W, Keep (fun _ => False) (w.alloc (.cells #[.int .i64 a, .int .i64 b, .string d] 51)) W → W.cell? ⟨w.heap.size, 0, none⟩ = some (.int .i64 a) ∧ W.cell? ⟨w.heap.size, 1, none⟩ = some (.int .i64 b) ∧ W.cell? ⟨w.heap.size, 2, none⟩ = some (.string d)) := fun W k => by
    rcases (rd_new w [.int .i64 a, .int .i64 b, .string d] 51).keep k with h | ⟨b', o, h1, h2⟩
    · cases h
    · injection h1 with h1
      injection h1 with h1 h3
      subst h1 h3
      exact ⟨h2 0 _ rfl, h2 1 _ rfl, h2 2 _ rfl⟩
  have HK : Hid (Keep (fun _ => False) w (w.alloc (.cells #[.int .i64 a, .int .i64 b, .string d] 51))) := (Keep.refl _ _).alloc _
  have c0 := Hc.out _ K0
  go_region_held3 (fun W => W.cell? ⟨w.heap.size, 0, none⟩ = some (.int .i64 a) ∧ W.cell? ⟨w.heap.size, 1, none⟩ = some (.int .i64 b) ∧ W.cell? ⟨w.heap.size, 2, none⟩ = some (.string d)) (first | exact Hc.out _ K0 | exact Hc.out _ (K0.alloc _) | exact Hc.out _ q3 | exact Hc.out _ q4 | exact Hc.out _ (q3.alloc _) | go_keep) (first
    | (go_at_call 53; refine (hq _).mono ?_; rintro e w3 ⟨rfl, k3⟩; have q3 : Keep (fun _ => False) (w.alloc (.cells #[.int .i64 a, .int .i64 b, .string d] 51)) w3 := by first | exact K0.trans k3 | exact (K0.alloc _).trans k3 | exact q4.trans k3)
    | (go_at_call 105; refine (ht1 (HG.out.keep (HK.out.trans K0))).mono ?_; rintro e w4 ⟨rfl, k4⟩; have q4 : Keep (fun _ => False) (w.alloc (.cells #[.int .i64 a, .int .i64 b, .string d] 51)) w4 := (K0.alloc _).trans k4)
    | (go_at_call 105; refine (ht _ (HG.out.keep (HK.out.trans q3))).mono ?_; rintro e w4 ⟨rfl, k4⟩; have q4 : Keep (fun _ => False) (w.alloc (.cells #[.int .i64 a, .int .i64 b, .string d] 51)) w4 := (q3.alloc _).trans k4)
    | (go_at_call 105; refine (ht' _ (HG.out.keep (HK.out.trans q3)) _ (ht2 k3)).mono ?_; rintro e w4 ⟨rfl, k4⟩; have q4 : Keep (fun _ => False) (w.alloc (.cells #[.int .i64 a, .int .i64 b, .string d] 51)) w4 := q3.trans k4))
  all_goals (
    go_wp2_with fail
    go_ret
    first | exact ⟨rfl, HK.out.trans q4⟩ | exact ⟨rfl, HK.out.trans q3⟩)
end Tg
end Go.Proofs.YtgilagmgepogbaaDoor
