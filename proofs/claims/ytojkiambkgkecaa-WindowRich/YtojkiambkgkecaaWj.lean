/-
  The chapter's runs; the awakening; WindowKnown and WindowTells, given what the program's calls answer.
-/
import Derived.Test.YtojkiambkgkecaaWi
namespace Go.Proofs.Ytojkiambkgkecaa
open Go.ChangeShapes Go.WideShapes Go.ChangeAt Go.RowKit
namespace Tg
/-- The chapter's runs. -/
def sam : List Rn := [⟨0, 1, 5⟩, ⟨2, 1, 9⟩, ⟨3, 3, 20⟩]
theorem rz_lit (w : World) (A : Array Value) (ty : TypeId) (l : List Rn) (hA : A.toList = rcells l) (hl : l.length ≤ 100000) : Rz (w.alloc (.cells A ty)) (some ⟨w.heap.size, 0, none⟩) l.length l := by
  have : Rs (w.alloc (.cells A ty)) (some ⟨w.heap.size, 0, none⟩) l.length l := by
    refine ⟨Nat.le_refl _, by omega, Or.inr ⟨_, rfl, fun j u hu => ?_⟩⟩
    have := cells_new w A ty j u (by rw [hA]; exact hu)
    rwa [Addr.add_lit, Nat.zero_add] at this
  exact this.rz
theorem sample_any (w : World) : Calls Try.prog 9 #[] w fun e w' => ∃ g, e = .returned (.slice (some ⟨g, 0, none⟩) 3 3) ∧ Rz w' (some ⟨g, 0, none⟩) 3 sam ∧ Keep (fun _ => False) w w' := by
  have hr := rz_lit w #[.int .i64 0, .int .i64 1, .int .i64 5, .int .i64 2, .int .i64 1, .int .i64 9, .int .i64 3, .int .i64 3, .int .i64 20] 39 sam rfl (by decide)
  have K := (Keep.refl (fun _ => False) w).alloc (.cells #[.int .i64 0, .int .i64 1, .int .i64 5, .int .i64 2, .int .i64 1, .int .i64 9, .int .i64 3, .int .i64 3, .int .i64 20] 39)
  go_enter Try.func9, Try.ntmps9
  go_wp2_with fail
  go_ret
  exact ⟨_, rfl, hr, K⟩
theorem sam_fits : Fits sam := fun x hx => by
  simp only [sam, List.mem_cons, List.not_mem_nil, or_false] at hx
  rcases hx with rfl | rfl | rfl <;> simp
theorem i64s {x : Int} (h1 : -1000 ≤ x) (h2 : x ≤ 1000) : I64 x := ⟨by omega, by omega⟩
theorem many_sam (H : ManyOk) {w : World} {a : Option Addr} (hR : Rz w a 3 sam) : Calls Try.prog 10 #[.slice a 3 3, .int .i64 8, .int .i64 4] w fun e w' => ∃ g o c', e = .returned (.tuple #[.slice (some ⟨g, o, none⟩) 2 c', .int .i64 0]) ∧ (2 ≤ c' ∧ c' ≤ 9223372036854775807 ∧ w'.cell? ⟨g, o, none⟩ = some (.int .i64 3) ∧ w'.cell? ⟨g, o + 1, none⟩ = some (.int .i64 1)) ∧ Keep (fun _ => False) w w' :=
  (H 8 4 hR sam_fits (i64s (by omega) (by omega)) (i64s (by omega) (by omega))).mono (by
    rintro e w' ⟨h, k⟩
    rw [if_pos (by decide)] at h
    obtain ⟨a', c', rfl, h2⟩ := h
    have hm : manL (8 : Int).toNat (4 : Int).toNat sam = [3, 1] := by decide
    rw [hm] at h2
    obtain ⟨g, o, rfl, x0⟩ := h2.at (i := 0) rfl
    obtain ⟨g', o', e', x1⟩ := h2.at (i := 1) rfl
    injection e' with e'
    injection e' with e1 e2
    subst e1 e2
    exact ⟨g, o, c', rfl, ⟨h2.1, h2.2.1, x0, x1⟩, k⟩)
theorem rich_sam (H : RichestOk) {w : World} {a : Option Addr} (hR : Rz w a 3 sam) : Calls Try.prog 11 #[.slice a 3 3, .int .i64 8, .int .i64 4] w fun e w' => e = .returned (.tuple #[.int .i64 0, .int .i64 4, .int .i64 3, .int .i64 0]) ∧ Keep (fun _ => False) w w' :=
  (H 8 4 hR sam_fits (i64s (by omega) (by omega)) (i64s (by omega) (by omega))).mono (by
    rintro e w' ⟨h, k⟩
    rw [if_pos (by decide)] at h
    subst h
    exact ⟨rfl, k⟩)
theorem holes_sam (H : HolesOk) {w : World} {a : Option Addr} (hR : Rz w a 3 sam) : Calls Try.prog 8 #[.slice a 3 3, .int .i64 0, .int .i64 8] w fun e w' => ∃ g o c', e = .returned (.tuple #[.slice (some ⟨g, o, none⟩) 2 c', .int .i64 0]) ∧ (2 ≤ c' ∧ c' ≤ 9223372036854775807 ∧ (w'.cell? ⟨g, o, none⟩ = some (.int .i64 1) ∧ w'.cell? ⟨g, o + 1, none⟩ = some (.int .i64 1) ∧ w'.cell? ⟨g, o + 2, none⟩ = some (.int .i64 (-1))) ∧ w'.cell? ⟨g, o + 3, none⟩ = some (.int .i64 6) ∧ w'.cell? ⟨g, o + 3 + 1, none⟩ = some (.int .i64 2) ∧ w'.cell? ⟨g, o + 3 + 2, none⟩ = some (.int .i64 (-1))) ∧ Keep (fun _ => False) w w' :=
  (H 0 8 hR sam_fits (i64s (by omega) (by omega)) (i64s (by omega) (by omega))).mono (by
    rintro e w' ⟨h, k⟩
    rw [if_pos (by decide)] at h
    obtain ⟨a', c', rfl, h2⟩ := h
    have hm : holL sam 0 8 = [⟨1, 1, -1⟩, ⟨6, 2, -1⟩] := by rfl
    rw [hm] at h2 ⊢
    obtain ⟨g, o, rfl, x0⟩ := h2.at (i := 0) rfl
    obtain ⟨g', o', e', x1⟩ := h2.at (i := 1) rfl
    injection e' with e'
    injection e' with e1 e2
    subst e1 e2
    exact ⟨g, o, c', rfl, ⟨h2.1, h2.2.1, x0, x1⟩, k⟩)
set_option maxRecDepth 100000 in
set_option maxHeartbeats 1000000 in
theorem awake_any (HM : ManyOk) (HR : RichestOk) (HH : HolesOk) (w : World) : Calls Try.prog 7 #[] w fun e w' => e = .returned (.bool true) ∧ Keep (fun _ => False) w w' := by
  have h1 := sample_any w
  go_enter Try.func7, Try.ntmps7
  go_wp2_with fail
  refine h1.mono ?_
  rintro e w1 ⟨g1, rfl, R1, K1⟩
  have h2 := many_sam HM R1
  clear h1 R1
  go_wp2_with fail
  refine h2.mono ?_
  rintro e w2 ⟨g2, o2, c2, rfl, ⟨q1, q2, q3, q4⟩, K2⟩
  have h3 := sample_any w2
  clear h2
  go_wp2_with fail
  refine h3.mono ?_
  rintro e w3 ⟨g3, rfl, R3, K3⟩
  have h4 := rich_sam HR R3
  clear h3 R3
  go_wp2_with fail
  refine h4.mono ?_
  rintro e w4 ⟨rfl, K4⟩
  have h5 := sample_any w4
  clear h4
  go_wp2_with fail
  refine h5.mono ?_
  rintro e w5 ⟨g5, rfl, R5, K5⟩
  have h6 := holes_sam HH R5
  clear h5 R5
  go_wp2_with fail
  refine h6.mono ?_
  rintro e w6 ⟨g6, o6, c6, rfl, ⟨p1, p2, ⟨p3, p4, p5⟩, p6, p7, p8⟩, K6⟩
  have K26 := ((K3.trans K4).trans K5).trans K6
  have q3 := K26.cell q3
  have q4 := K26.cell q4
  have KK : Hid (Keep (fun _ => False) w w6) := (K1.trans K2).trans K26
  clear h6 K26 K1 K2 K3 K4 K5 K6
  go_wp2_with fail
  go_ret
  exact ⟨rfl, KK⟩
theorem holes_two (H : HolesOk) {w : World} {a : Option Addr} (hR : Rz w a 3 sam) : Calls Try.prog 8 #[.slice a 3 3, .int .i64 2, .int .i64 2] w fun e w' => ∃ a' c', e = .returned (.tuple #[.slice a' 0 c', .int .i64 0]) ∧ Keep (fun _ => False) w w' :=
  (H 2 2 hR sam_fits (i64s (by omega) (by omega)) (i64s (by omega) (by omega))).mono (by
    rintro e w' ⟨h, k⟩
    rw [if_pos (by decide)] at h
    obtain ⟨a', c', rfl, -⟩ := h
    exact ⟨a', c', rfl, k⟩)
theorem many_no (H : ManyOk) {w : World} {a : Option Addr} (hR : Rz w a 3 sam) {C W : Int} (h1 : I64 C) (h2 : I64 W) (hno : mOkB sam C W = false) : Calls Try.prog 10 #[.slice a 3 3, .int .i64 C, .int .i64 W] w fun e w' => ∃ a' c', e = .returned (.tuple #[.slice a' 0 c', .int .i64 1]) ∧ Keep (fun _ => False) w w' :=
  (H C W hR sam_fits h1 h2).mono (by
    rintro e w' ⟨h, k⟩
    rw [if_neg (by rw [hno]; decide)] at h
    obtain ⟨a', c', rfl⟩ := h
    exact ⟨a', c', rfl, k⟩)
theorem rich_no (H : RichestOk) {w : World} {a : Option Addr} (hR : Rz w a 3 sam) : Calls Try.prog 11 #[.slice a 3 3, .int .i64 8, .int .i64 0] w fun e w' => e = .returned (.tuple #[.int .i64 0, .int .i64 0, .int .i64 0, .int .i64 1]) ∧ Keep (fun _ => False) w w' :=
  (H 8 0 hR sam_fits (i64s (by omega) (by omega)) (i64s (by omega) (by omega))).mono (by
    rintro e w' ⟨h, k⟩
    rw [if_neg (by decide)] at h
    subst h
    exact ⟨rfl, k⟩)
set_option maxRecDepth 100000 in
set_option maxHeartbeats 1000000 in
theorem known_walk (HM : ManyOk) (HR : RichestOk) (HH : HolesOk) (w : World) : Calls Try.prog 3 #[] w fun e w' => e = .returned (.bool true) ∧ Keep (fun _ => False) w w' := by
  have haw := awake_any HM HR HH w
  go_enter Try.func3, Try.ntmps3
  go_wp2_with fail
  refine haw.mono ?_
  rintro e w0 ⟨rfl, K0⟩
  have h1 := sample_any w0
  clear haw
  go_wp2_with fail
  refine h1.mono ?_
  rintro e w1 ⟨g1, rfl, R1, K1⟩
  have h2 := holes_two HH R1
  clear h1 R1
  go_wp2_with fail
  refine h2.mono ?_
  rintro e w2 ⟨a2, c2, rfl, K2⟩
  have h3 := sample_any w2
  clear h2
  go_wp2_with fail
  refine h3.mono ?_
  rintro e w3 ⟨g3, rfl, R3, K3⟩
  have h4 := many_no HM R3 (C := 5) (W := 4) (i64s (by omega) (by omega)) (i64s (by omega) (by omega)) (by decide)
  clear h3 R3
  go_wp2_with fail
  refine h4.mono ?_
  rintro e w4 ⟨a4, c4, rfl, K4⟩
  have h5 := sample_any w4
  clear h4
  go_wp2_with fail
  refine h5.mono ?_
  rintro e w5 ⟨g5, rfl, R5, K5⟩
  have h6 := many_no HM R5 (C := 8) (W := 9) (i64s (by omega) (by omega)) (i64s (by omega) (by omega)) (by decide)
  clear h5 R5
  go_wp2_with fail
  refine h6.mono ?_
  rintro e w6 ⟨a6, c6, rfl, K6⟩
  have h7 := sample_any w6
  clear h6
  go_wp2_with fail
  refine h7.mono ?_
  rintro e w7 ⟨g7, rfl, R7, K7⟩
  have h8 := rich_no HR R7
  clear h7 R7
  go_wp2_with fail
  refine h8.mono ?_
  rintro e w8 ⟨rfl, K8⟩
  have KK : Hid (Keep (fun _ => False) w w8) := (((((((K0.trans K1).trans K2).trans K3).trans K4).trans K5).trans K6).trans K7).trans K8
  clear h8 K0 K1 K2 K3 K4 K5 K6 K7 K8
  go_wp2_with fail
  go_ret
  exact ⟨rfl, KK⟩
set_option maxRecDepth 100000 in
set_option maxHeartbeats 1000000 in
theorem tells_walk (HM : ManyOk) (HR : RichestOk) (HH : HolesOk) {w : World} {a1 a2 : Option Addr} {c1 c2 : Nat} {l p : List Rn} (hR : Rz w a1 c1 l) (hf : Fits l) (hll : l.length ≤ 5864062014700) (hP : Rz w a2 c2 p) (hfp : Fits p) {C W lba n : Int}
    (hC : I64 C) (hW : I64 W) (hlb : I64 lba) (hn : I64 n) :
    Calls Try.prog 4 #[.slice a1 l.length c1, .slice a2 p.length c2, .int .i64 C, .int .i64 W, .int .i64 lba, .int .i64 n] w fun e w' => e = .returned (.bool true) ∧ Keep (fun _ => False) w w' := by
  have hc1 := hR.1
  have hc2 := hR.2.1
  have hc3 := hP.1
  have hc4 := hP.2.1
  have HA := awake_any HM HR HH
  by_cases h1 : p.length ≤ 100
  · have d1 : ¬ (100 : Int) < (p.length : Int) := by omega
    go_enter Try.func4, Try.ntmps4
    go_wp2_with fail
    refine (HA _).mono ?_
    rintro e w0 ⟨rfl, k0⟩
    have ht := tells_any HM HR HH (hR.more k0) hf hll hC hW hlb hn
    go_wp2_with fail
    refine ht.mono ?_
    rintro e w1 ⟨rfl, k1⟩
    have hfo := fold9 (hP.more (k0.trans k1)) hfp
    clear ht
    go_wp2_with fail
    refine hfo.mono ?_
    rintro e w2 ⟨a2', c2', rfl, R2⟩
    have hl2 := foldR_len p
    have ht2 := tells_any HM HR HH R2.rs.rz (foldR_fits p) (by omega) hC hW hlb hn
    clear hfo
    go_wp2_with fail
    refine ht2.mono ?_
    rintro e w3 ⟨rfl, k3⟩
    go_wp2_with fail
    go_ret
    exact ⟨rfl, (k0.trans k1).trans (R2.keep.trans k3)⟩
  · have d1 : (100 : Int) < (p.length : Int) := by omega
    go_enter Try.func4, Try.ntmps4
    go_wp2_with fail
    refine (HA _).mono ?_
    rintro e w0 ⟨rfl, k0⟩
    go_wp2_with fail
    refine (HA _).mono ?_
    rintro e w1 ⟨rfl, k1⟩
    go_wp2_with fail
    go_ret
    exact ⟨rfl, k0.trans k1⟩
theorem known_law (HM : ManyOk) (HR : RichestOk) (HH : HolesOk) (w : World) : Calls Try.prog 3 #[] w fun e w' => e = .returned (.bool true) ∧ Below w.heap.size w w' :=
  (known_walk HM HR HH w).mono fun _ _ ⟨h1, h2⟩ => ⟨h1, h2.belowB (Nat.le_refl _) (fun _ e => e.elim)⟩
theorem tells_law (HM : ManyOk) (HR : RichestOk) (HH : HolesOk) {Wd : World} {a1 a2 : Option Addr} {n1 n2 d1 d2 : Nat} (hl : Rows3 Wd a1 n1 d1) (hn1 : n1 ≤ 5864062014700) (hp : Rows3 Wd a2 n2 d2) {C W lba n : Int} (hC : I64 C) (hW : I64 W) (hlb : I64 lba) (hn : I64 n) :
    Calls Try.prog 4 #[.slice a1 n1 d1, .slice a2 n2 d2, .int .i64 C, .int .i64 W, .int .i64 lba, .int .i64 n] Wd fun e w' => e = .returned (.bool true) ∧ Below Wd.heap.size Wd w' := by
  obtain ⟨l, rfl, h1, h2⟩ := hl
  obtain ⟨p, rfl, h3, h4⟩ := hp
  exact (tells_walk HM HR HH h1 h2 hn1 h3 h4 hC hW hlb hn).mono fun _ _ ⟨h1, h2⟩ => ⟨h1, h2.belowB (Nat.le_refl _) (fun _ e => e.elim)⟩
end Tg
end Go.Proofs.Ytojkiambkgkecaa
