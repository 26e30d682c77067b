/-
  The document's own Create.
-/
import Derived.Test.YtjgnajopomadpaaGreatPm
namespace Go.Proofs.YtjgnajopomadpaaGreat
open Go.ChangeShapes Go.WideShapes Go.ChangeAt Go.RowKit
namespace Tg
open Qm
theorem seekL_bd {us : Nat → Bool} {N n : Nat} : ∀ (m p : Nat) {a : Nat}, seekL us N n m p = some a → p ≤ a ∧ a + n ≤ N ∧ fitsAt us n a = true
  | 0, _, _, h => by cases h
  | m + 1, p, a, h => by
    unfold seekL at h
    split at h
    · next h1 =>
      split at h
      · next h2 => injection h with h; subst h; exact ⟨Nat.le_refl _, h1, h2⟩
      · have := seekL_bd m (p + 1) h; exact ⟨by omega, this.2⟩
    · cases h
theorem roomL_bd {N : Nat} {V : List En} {n a : Nat} {j : Int} (h : roomL N V n = some (a, j)) : 8 ≤ a ∧ a + n ≤ N ∧ 0 ≤ j ∧ j ≤ 7 ∧ fitsAt (usedV V) n a = true ∧ j = feF (takenV V) 8 := by
  unfold roomL at h
  split at h
  · cases h
  · next h0 =>
    have hb := feF_bd (takenV V) 8
    cases hs : seekL (usedV V) N n (N + 1) 8 with
    | none => rw [hs] at h; cases h
    | some a2 =>
      rw [hs] at h
      have h : some (a2, feF (takenV V) 8) = some (a, j) := h
      injection h with h
      injection h with h1 h2
      subst h1; subst h2
      have := seekL_bd _ _ hs
      exact ⟨this.1, this.2.1, by omega, by omega, this.2.2, rfl⟩
def createL (N : Nat) (l : List Int) (s : ByteArray) (n : Int) : List Int × Int :=
  if goodS (bs s) = false ∨ n < 1 ∨ 512 < n then (l, (1 : Int)) else if (volOf (volL N l) s).isSome then (l, (8 : Int)) else match roomL N (volL N l) n.toNat with
    | none => (l, 5)
    | some (a, j) => (wrL (wrL l a n.toNat []) j.toNat 1 (bytesE (nums s) a n), 0)
set_option maxRecDepth 100000 in
set_option maxHeartbeats 2000000 in
theorem create25 {l : List Int} (hl8 : B8 l) {N : Nat} (hl : l.length = N * 32) (hN : 9 ≤ N ∧ N ≤ 512) (s : ByteArray) (hs : s.size ≤ 9223372036854775807) (n : Int) (w : World) :
    Calls Tryz.prog 48 #[.string (strOfNums l), .string s, .int .i64 n] w fun e w' => e = .returned (.tuple #[.string (strOfNums (createL N l s n).1), .int .i64 (createL N l s n).2]) ∧ Keep (fun _ => False) w w' := by
  have hD : RowKit.Hid (Dk l N (volL N l)) := dk_of hl8 hl hN
  have hroom : RowKit.Hid (∀ k : Nat, 1 ≤ k ∧ k ≤ 512 → ∀ wx, Calls Tryz.prog 67 #[.string (strOfNums l), .int .i64 (k : Int)] wx fun e w' => (∃ v, e = .returned v ∧ roomQ N (volL N l) k v) ∧ Keep (fun _ => False) wx w') := fun k hk wx => room25 hl8 hl hN hk wx
  clear hl8 hl hN
  have hGood := rgood25 s hs w
  have hgl := good_len (t := s)
  obtain ⟨G, hG⟩ : ∃ G, G = goodS (bs s) := ⟨_, rfl⟩
  obtain ⟨R, hR⟩ : ∃ R, RowKit.Hid (R = createL N l s n) := ⟨_, rfl⟩
  have hR2 : RowKit.Hid (R = if G = false ∨ n < 1 ∨ 512 < n then (l, (1 : Int)) else if (volOf (volL N l) s).isSome then (l, (8 : Int)) else match roomL N (volL N l) n.toNat with | none => (l, 5) | some (a, j) => (wrL (wrL l a n.toNat []) j.toNat 1 (bytesE (nums s) a n), 0)) := by rw [hG]; exact hR
  rw [← hR.out]
  rw [← hG] at hGood hgl
  clear hR hG hs
  obtain ⟨T, hT⟩ : ∃ T, RowKit.Hid (T = strOfNums l) := ⟨_, rfl⟩
  rw [← hT.out] at hroom ⊢
  obtain ⟨V, hV⟩ : ∃ V, V = volL N l := ⟨_, rfl⟩
  rw [← hV] at hD hR2 hroom
  clear hV
  by_cases hbad : G = false ∨ n < 1 ∨ 512 < n
  · have hRR : RowKit.Hid (R = (l, 1)) := by show R = _; rw [hR2.out, if_pos hbad]
    have hK : RowKit.Hid (Keep (fun _ => False) w w) := Keep.refl _ _
    clear hR2 hD hroom hgl
    cases G with
    | false =>
      clear hbad
      go_enter Tryz.func48, Tryz.ntmps48
      go_wp2_with fail
      refine hGood.mono ?_
      rintro e w1 ⟨rfl, e1⟩
      subst e1
      clear hGood
      go_wp2_with fail
      go_ret2
      exact ⟨by rw [hRR.out, hT.out]; rfl, hK⟩
    | true =>
      by_cases c1 : n < 1
      · have d1 : decide (n < 1) = true := decide_eq_true c1
        clear hbad
        go_enter Tryz.func48, Tryz.ntmps48
        go_wp2_with fail
        refine hGood.mono ?_
        rintro e w1 ⟨rfl, e1⟩
        subst e1
        clear hGood
        go_wp2_with fail
        go_ret2
        exact ⟨by rw [hRR.out, hT.out]; rfl, hK⟩
      · have c2 : n > 512 := by rcases hbad with h | h | h; cases h; exact absurd h c1; exact h
        have d1 : decide (n < 1) = false := decide_eq_false c1
        have d2 : decide (n > 512) = true := decide_eq_true c2
        clear hbad
        go_enter Tryz.func48, Tryz.ntmps48
        go_wp2_with fail
        refine hGood.mono ?_
        rintro e w1 ⟨rfl, e1⟩
        subst e1
        clear hGood
        go_wp2_with fail
        go_ret2
        exact ⟨by rw [hRR.out, hT.out]; rfl, hK⟩
  · have hGt : G = true := by cases G with
      | false => exact absurd (Or.inl rfl) hbad
      | true => rfl
    subst hGt
    obtain ⟨k, rfl⟩ : ∃ k : Nat, n = (k : Int) := ⟨n.toNat, by omega⟩
    have hk : RowKit.Hid (1 ≤ k ∧ k ≤ 512) := by show _ ∧ _; omega
    have hR3 : RowKit.Hid (R = if (volOf V s).isSome then (l, (8 : Int)) else match roomL N V k with | none => (l, 5) | some (a, j) => (wrL (wrL l a k []) j.toNat 1 (bytesE (nums s) a k), 0)) := by show R = _; rw [hR2.out, if_neg hbad]; rfl
    have c1 : ¬ (k : Int) < 1 := by omega
    have c2 : ¬ (k : Int) > 512 := by omega
    have d1 : decide ((k : Int) < 1) = false := decide_eq_false c1
    have d2 : decide ((k : Int) > 512) = false := decide_eq_false c2
    have hsl := hgl rfl
    have hv := hD.out.vol w
    rw [← hT.out] at hv
    have hroomk := hroom.out k hk.out
    clear hbad hR2 hgl hroom
    go_enter Tryz.func48, Tryz.ntmps48
    go_wp2_with fail
    refine hGood.mono ?_
    rintro e w1 ⟨rfl, e1⟩
    subst e1
    clear hGood
    go_upto_region 3 with fail
    go_wp2_with fail
    refine hv.mono ?_
    rintro e w2 ⟨a, cap, rfl, E2⟩
    have hK : RowKit.Hid (Keep (fun _ => False) w1 w2) := E2.keep
    have hf := find25 E2.er (by have := hD.out.v8; omega) cap s
    obtain ⟨F, hF⟩ : ∃ F, F = findF s V 0 := ⟨_, rfl⟩
    rw [← hF] at hf
    clear hv E2 d1 d2 c1 c2
    obtain ⟨m, hm⟩ : ∃ m, RowKit.Hid (m = V.length) := ⟨_, rfl⟩
    rw [← hm.out] at hf ⊢
    go_wp2_with fail
    refine hf.mono ?_
    rintro e w3 ⟨rfl, e3⟩
    subst e3
    clear hf
    rcases find_or s V with ⟨h1, h2⟩ | ⟨i, x, h1, h2, h3, h4⟩
    case inr =>
      rw [h1] at hF
      subst hF
      have hRR : RowKit.Hid (R = (l, 8)) := by show R = _; rw [hR3.out, h3]; rfl
      have hge2 : (0 : Int) ≤ (i : Int) := by omega
      clear h1 h2 h3 h4 hR3 hD hm hroomk
      go_wp2_with fail
      go_ret2
      exact ⟨by rw [hRR.out, hT.out]; rfl, hK⟩
    case inl =>
      rw [h1] at hF
      subst hF
      have hR4 : RowKit.Hid (R = match roomL N V k with | none => (l, 5) | some (a, j) => (wrL (wrL l a k []) j.toNat 1 (bytesE (nums s) a k), 0)) := by show R = _; rw [hR3.out, h2]; rfl
      have hr3 := hroomk w3
      clear h1 h2 hR3 hm hroomk
      go_upto_region 5 with fail
      go_wp2_with fail
      refine hr3.mono ?_
      rintro e w4 ⟨⟨v, rfl, hq⟩, k4⟩
      have hK4 : RowKit.Hid (Keep (fun _ => False) w1 w4) := hK.out.trans k4
      clear hr3 k4 hK
      cases hrl : roomL N V k with
      | none =>
        unfold roomQ at hq
        rw [hrl] at hq hR4
        obtain ⟨f, j, rfl⟩ := hq
        have hRR : RowKit.Hid (R = (l, 5)) := hR4
        have hK5 : RowKit.Hid (Keep (fun _ => False) w1 (w4.alloc (.cells #[.string ⟨#[]⟩, .int .i64 f, .int .i64 (k : Int), .int .i64 j] 91))) := hK4.out.alloc _
        clear hR4 hD hrl hK4
        go_wp2_with fail
        go_ret2
        exact ⟨by rw [hRR.out, hT.out]; rfl, hK5⟩
      | some aj =>
        obtain ⟨p, j⟩ := aj
        unfold roomQ at hq
        rw [hrl] at hq hR4
        have hq : v = .tuple #[.agg #[.string ⟨#[]⟩, .int .i64 (p : Int), .int .i64 (k : Int), .int .i64 j], .bool true] := hq
        subst hq
        obtain ⟨b1, b2, b3, b4, -⟩ := roomL_bd hrl
        obtain ⟨c, rfl⟩ : ∃ c : Nat, j = (c : Int) := ⟨j.toNat, by omega⟩
        have hRR : RowKit.Hid (R = (wrL (wrL l p k []) c 1 (bytesE (nums s) p k), 0)) := hR4
        have hK5 : RowKit.Hid (Keep (fun _ => False) w1 (w4.alloc (.cells #[.string ⟨#[]⟩, .int .i64 (p : Int), .int .i64 (k : Int), .int .i64 (c : Int)] 91))) := hK4.out.alloc _
        have L5 : Blk (w4.alloc (.cells #[.string ⟨#[]⟩, .int .i64 (p : Int), .int .i64 (k : Int), .int .i64 (c : Int)] 91)) w4.heap.size 4 (enC ⟨[], p, k, c⟩) :=
          blk_alloc w4 _ 91 4 _ (by intro k hk; rcases (by omega : k = 0 ∨ k = 1 ∨ k = 2 ∨ k = 3) with rfl | rfl | rfl | rfl <;> rfl)
        have hWr := fun w => rwrite17_yes (d := ⟨#[]⟩) hD.out.len hD.out.N9.2 (lba := p) (n := k) (okR_iff.2 ⟨by have := hk.out; omega, by omega, by omega⟩) w
        rw [← hT.out] at hWr
        have hlen2 : (wrL l p k (nums ⟨#[]⟩)).length = N * 32 := by rw [wrL_len (by rw [hD.out.len]; omega)]; exact hD.out.len
        have hput := fun w => put25 (nm := nums s) hlen2 hD.out.N9.2 (nums_b8 s) (by rw [nums_len]; exact hsl.2) p k (j := c) (by have := hD.out.N9; omega) w
        rw [str_nums] at hput
        obtain ⟨T2, hT2⟩ : ∃ T2, RowKit.Hid (T2 = strOfNums (wrL l p k (nums ⟨#[]⟩))) := ⟨_, rfl⟩
        obtain ⟨U, hU⟩ : ∃ U, RowKit.Hid (U = strOfNums (wrL (wrL l p k (nums ⟨#[]⟩)) c 1 (bytesE (nums s) p k))) := ⟨_, rfl⟩
        rw [← hT2.out] at hWr hput
        rw [← hU.out] at hput
        have hgb : RowKit.Hid (w1.heap.size ≤ w4.heap.size) := hK4.out.size
        clear hR4 hD hrl hK4 b1 b2 b3 b4 hlen2 hsl
        go_upto_region 8 with fail
        generalize w4.alloc (.cells #[.string ⟨#[]⟩, .int .i64 (p : Int), .int .i64 (k : Int), .int .i64 (c : Int)] 91) = w5 at *
        generalize w4.heap.size = g at *
        obtain ⟨y0, f0⟩ := L5 0 (by omega)
        have L6 : Blk (w5.setCell ⟨g, 0, none⟩ (.string s)) g 4 (enC ⟨nums s, p, k, c⟩) := (L5.set 0 _).congr (fun j hj => by rcases (by omega : j = 0 ∨ j = 1 ∨ j = 2 ∨ j = 3) with rfl | rfl | rfl | rfl <;> first | rfl | (show Value.string s = .string (strOfNums (nums s)); rw [str_nums]))
        have hK6 : RowKit.Hid (Keep (fun _ => False) w1 (w5.setCell ⟨g, 0, none⟩ (.string s))) := hK5.out.setCell (Or.inr hgb.out) _
        have y0 : w5.cell? ⟨g, 0, none⟩ = some (.string ⟨#[]⟩) := y0
        clear L5 hK5
        go_upto_region 9 with fail
        generalize w5.setCell ⟨g, 0, none⟩ (.string s) = w6 at *
        clear y0 f0
        have y1 : w6.cell? ⟨g, 1, none⟩ = some (.int .i64 (p : Int)) := (L6 1 (by omega)).1
        have L6' : RowKit.Hid (Blk w6 g 4 (enC ⟨nums s, p, k, c⟩)) := L6
        clear L6
        have hW6 := hWr w6
        clear hWr
        go_wp2_with fail
        refine hW6.mono ?_
        rintro e w7 ⟨rfl, k7⟩
        have L7 := load50 (L6'.out.keep k7 (fun e => e))
        have hA : enA ⟨nums s, p, k, c⟩ = #[.string s, .int .i64 (p : Int), .int .i64 (k : Int), .int .i64 (c : Int)] := by show #[Value.string (strOfNums (nums s)), _, _, _] = _; rw [str_nums]
        rw [hA] at L7
        have hK7 : RowKit.Hid (Keep (fun _ => False) w1 w7) := hK6.out.trans k7
        have hp7 := hput w7
        clear hW6 k7 hK6 L6' y1 hA hput
        go_wp2_with (guard_target =~ wpList _ _ _ (Oper.mk _ (Op.load 91 _) _ _ _ _ :: _) _ _; refine wpList_load_run (by rfl) 91 (.tmp 8) (by rfl) (by rfl) L7 ?_)
        refine hp7.mono ?_
        rintro e w8 ⟨rfl, k8⟩
        have hK8 : RowKit.Hid (Keep (fun _ => False) w1 w8) := hK7.out.trans k8
        clear hp7 k8 hK7 L7
        go_wp2_with fail
        go_ret2
        exact ⟨by rw [hRR.out]; show Ending.returned (.tuple #[.string U, _]) = _; rw [hU.out]; rfl, hK8⟩
end Tg
end Go.Proofs.YtjgnajopomadpaaGreat
