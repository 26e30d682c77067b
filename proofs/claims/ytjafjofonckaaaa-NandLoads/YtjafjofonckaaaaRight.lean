/-
  Are all bytes of a row the same? Are bytes an image of a flash of that size? Both over any memory.
-/
import Derived.Test.YtjafjofonckaaaaImg
import Derived.Test.YtjafjofonckaaaaReads
namespace Go.Proofs.Ytjafjofonckaaaa
open Go.ChangeShapes Go.WideShapes Go.ChangeAt Go.RowKit
namespace Nd

/-- A call answers whether Q holds. -/
def Says (e : Ending) (Q : Prop) : Prop := ∃ r : Bool, e = .returned (.bool r) ∧ (r = true ↔ Q)
theorem Says.yes {e : Ending} {Q : Prop} (h : e = .returned (.bool true)) (q : Q) : Says e Q := ⟨true, h, ⟨fun _ => q, fun _ => rfl⟩⟩
theorem Says.no {e : Ending} {Q : Prop} (h : e = .returned (.bool false)) (q : ¬ Q) : Says e Q := ⟨false, h, ⟨fun e => absurd e (by decide), fun h => absurd h q⟩⟩

theorem allAre_any {w : World} {a : Option Addr} {n cap : Nat} {l : List Int} (hr : Row w a n cap l) (v : Int) :
    Calls Try.prog 50 #[.slice a n cap, .int .u8 v] w fun e w' => Says e (∀ i, i < n → l.getD i 0 = v) ∧ w' = w := by
  obtain ⟨h1, h2, h3, h4, h5⟩ := hr
  have hlen : (n : Int) ≤ 9223372036854775807 := by omega
  go_enter Try.func50, Try.ntmps50
  go_wp2
  go_loop [9] (fun i => ∃ k : Nat, k ≤ n ∧ i = .int .i64 k ∧ ∀ j, j < k → l.getD j 0 = v) (fun i => n - (intOf i).toNat)
  case atStart => exact ⟨0, by omega, rfl, fun j hj => by omega⟩
  case round =>
    obtain ⟨k, hk, rfl, hall⟩ := hrel
    have HA : Hid (∀ j, j < k → l.getD j 0 = v) := hall
    clear hall
    by_cases hlt : k < n
    · rcases h5 with h0 | ⟨b, o, rfl, hc⟩
      · omega
      have hck := hc k hlt
      have hlt' : (k : Int) < n := by omega
      by_cases he : l.getD k 0 = v
      · rw [he] at hck
        have H5 : Hid (l.getD k 0 = v) := he
        clear hc he h1
        go_wp2_with fail
        go_round
        case rel =>
          refine ⟨k + 1, by omega, by go_num, fun j hj => ?_⟩
          by_cases e : j = k
          · subst e; exact H5.out
          · exact HA.out j (by omega)
        case measure => simp [intOf]; omega
      · have HN : Hid (¬ l.getD k 0 = v) := he
        clear hc h1
        generalize hz : l.getD k 0 = z at hck he
        have HZ : Hid (l.getD k 0 = z) := hz
        clear hz
        go_wp2_with fail
        go_ret
        exact ⟨Says.no rfl (fun h => HN.out (h k hlt)), rfl⟩
    · obtain rfl : k = n := by omega
      go_wp2_with fail
      go_ret
      exact ⟨Says.yes rfl HA.out, rfl⟩

theorem and2_lo {x : Int} (h : x = 0 ∨ x = 1) : bits .and .u8 x 2 = 0 := by rcases h with rfl | rfl <;> rfl
theorem and2_hi {x : Int} (h : x = 2 ∨ x = 3) : bits .and .u8 x 2 = 2 := by rcases h with rfl | rfl <;> rfl

/-- What 'right' has to see of one block. -/
theorem good_iff {B P b W m M : Nat} {d : Nat → Int} {x : Int} {nx : Nat} (hW : P * 68 = W) (hM : B * P * 68 = M) (hm : b * W = m) (hx : d (M + 2 * b) = x) (hn : d (M + 2 * b + 1) = nx) :
    Good B P d b ↔ (x ≤ 3 ∧ nx ≤ P ∧ (2 ≤ x → nx = 0) ∧ ∀ i, nx * 68 ≤ i → i < W → d (m + i) = if 2 ≤ x then 0 else 255) := by
  subst hW hM hm hx
  constructor
  · intro h
    have h1 := h.mark
    have h2 := h.next
    have h3 := h.torn
    have h4 := h.rest
    rw [hn] at h2 h3 h4
    exact ⟨h1, by omega, fun e => by have := h3 e; omega, fun i hi0 hi => h4 i (by omega) hi⟩
  · rintro ⟨h1, h2, h3, h4⟩
    exact ⟨h1, by rw [hn]; omega, fun e => by rw [hn, h3 e]; rfl, fun i hi0 hi => h4 i (by rw [hn] at hi0; omega) hi⟩

set_option maxRecDepth 100000 in
set_option maxHeartbeats 2000000 in
theorem right_any {w : World} {g cap B P : Nat} {d : Nat → Int} (b2 : B ≤ 8) (p1 : 1 ≤ P) (p2 : P ≤ 8) (hd : ∀ i, 0 ≤ d i ∧ d i ≤ 255) (hr : Row w (some ⟨g, 0, none⟩) (B * P * 68 + 2 * B) cap (tab (B * P * 68 + 2 * B) d)) :
    Calls Try.prog 30 #[.int .i64 B, .int .i64 P, .slice (some ⟨g, 0, none⟩) (B * P * 68 + 2 * B) cap] w fun e w' => Says e (∀ b, b < B → Good B P d b) ∧ w' = w := by
  have hc : ∀ i, i < B * P * 68 + 2 * B → w.cell? ⟨g, i, none⟩ = some (.int .u8 (d i)) := fun i hi => by rw [hr.cellAt hi, tab_get d hi]
  have hcap := hr.2.1
  have hcm := hr.2.2.1
  obtain ⟨W, hW⟩ : ∃ W, P * 68 = W := ⟨_, rfl⟩
  obtain ⟨M, hM⟩ : ∃ M, B * P * 68 = M := ⟨_, rfl⟩
  have hBW : B * W = M := by rw [← hW, ← hM, Nat.mul_assoc]
  have hMle : M ≤ 8 * 544 := by rw [← hBW]; exact Nat.mul_le_mul b2 (by omega)
  have iW : (P : Int) * 68 = W := by omega
  have iM : (B : Int) * W = M := by rw [← hBW]; simp
  have HG : Hid (∀ (b : Nat) (x : Int) (nx m : Nat), b * W = m → d (M + 2 * b) = x → d (M + 2 * b + 1) = nx → (Good B P d b ↔ (x ≤ 3 ∧ nx ≤ P ∧ (2 ≤ x → nx = 0) ∧ ∀ i, nx * 68 ≤ i → i < W → d (m + i) = if 2 ≤ x then 0 else 255))) := fun b x nx m h1 h2 h3 => good_iff hW hM h1 h2 h3
  have HWb : Hid (∀ b, b < B → b * W + W ≤ M) := fun b hb => by
    have : (b + 1) * W ≤ B * W := Nat.mul_le_mul_right W hb
    rw [Nat.add_mul] at this; omega
  have hW8 : W ≤ 544 := by omega
  simp only [hM] at hc hcap ⊢
  clear hr hM hBW
  have hL : ((M : Int) + 2 * B) ≤ 10000 := by omega
  go_enter Try.func30, Try.ntmps30
  go_wp2
  go_loop [8] (fun i => ∃ b : Nat, b ≤ B ∧ i = .int .i64 b ∧ ∀ b', b' < b → Good B P d b') (fun i => B - (intOf i).toNat)
  case atStart => exact ⟨0, by omega, rfl, fun j hj => by omega⟩
  case round =>
    obtain ⟨b, hb, rfl, hall⟩ := hrel
    have HA : Hid (∀ b', b' < b → Good B P d b') := hall
    clear hall
    by_cases hlt : b < B
    · have c1 := hc (M + 2 * b) (by omega)
      have c2 := hc (M + 2 * b + 1) (by omega)
      have hx0 := hd (M + 2 * b)
      have hn0 := hd (M + 2 * b + 1)
      obtain ⟨nx, hnx⟩ := Int.eq_ofNat_of_zero_le hn0.1
      obtain ⟨m, hm⟩ : ∃ m, b * W = m := ⟨_, rfl⟩
      have im : (b : Int) * W = m := by rw [← hm]; simp
      have hmM := HWb.out b hlt
      obtain ⟨x, hx⟩ : ∃ x, d (M + 2 * b) = x := ⟨_, rfl⟩
      have HI : Hid (Good B P d b ↔ (x ≤ 3 ∧ nx ≤ P ∧ (2 ≤ x → nx = 0) ∧ ∀ i, nx * 68 ≤ i → i < W → d (m + i) = if 2 ≤ x then 0 else 255)) := HG.out b x nx m hm hx hnx
      have HC : Hid (∀ i, i < W → w.cell? ⟨g, m + i, none⟩ = some (.int .u8 (d (m + i)))) := fun i hi => hc (m + i) (by omega)
      rw [hx] at c1 hx0
      rw [hnx] at c2 hn0
      have hlt' : (b : Int) < B := by omega
      have HNo : Hid (¬ Good B P d b → ¬ ∀ b', b' < B → Good B P d b') := fun h h2 => h (h2 b hlt)
      rw [hm] at hmM
      clear hc hnx hx hm
      have e1 : ((M : Int) + 2 * b) < M + 2 * B := by omega
      have e2 : ((M : Int) + 2 * b + 1) < M + 2 * B := by omega
      by_cases h3 : 3 < x
      · go_wp2_with fail
        go_ret
        exact ⟨Says.no rfl (HNo.out (fun hg => by have := (HI.out.1 hg).1; omega)), rfl⟩
      · by_cases hP : (P : Int) < nx
        · go_wp2_with fail
          go_ret
          exact ⟨Says.no rfl (HNo.out (fun hg => by have := (HI.out.1 hg).2.1; omega)), rfl⟩
        · have hnP : nx ≤ P := by omega
          have hnW : nx * 68 ≤ W := by omega
          by_cases ht : 2 ≤ x
          · by_cases hz : nx = 0
            · subst hz
              have hbit := and2_hi (x := x) (by omega)
              have HI2 : Hid (Good B P d b ↔ ∀ i, 0 ≤ i → i < W → d (m + i) = 0) := by
                refine HI.out.trans ⟨fun h i hi0 hi => ?_, fun h => ⟨by omega, by omega, fun _ => rfl, fun i hi0 hi => ?_⟩⟩
                · have := h.2.2.2 i (by omega) hi
                  rwa [if_pos (by omega)] at this
                · rw [if_pos (by omega)]; exact h i (by omega) hi
              clear HI HG HWb
              go_wp2_with fail
              go_loop [12] (fun i => ∃ k : Nat, 0 ≤ k ∧ k ≤ W ∧ i = .int .i64 k ∧ ∀ j, 0 ≤ j → j < k → d (m + j) = 0) (fun i => W - (intOf i).toNat)
              case atStart => exact ⟨0, by omega, by omega, by go_num, fun j h1 h2 => by omega⟩
              case round =>
                obtain ⟨k, hk0, hk, rfl, hin⟩ := hrel
                have HK : Hid (∀ j, 0 ≤ j → j < k → d (m + j) = 0) := hin
                clear hin
                by_cases hkW : k < W
                · have ck := HC.out k hkW
                  have hkW' : (k : Int) < W := by omega
                  have e3 : ((m : Int) + k) < M + 2 * B := by omega
                  by_cases hv : d (m + k) = 0
                  · rw [hv] at ck
                    have HV : Hid (d (m + k) = 0) := hv
                    clear hv
                    go_wp2_with fail
                    go_round
                    case rel =>
                      refine ⟨k + 1, by omega, by omega, by go_num, fun j h1 h2 => ?_⟩
                      by_cases e : j = k
                      · subst e; exact HV.out
                      · exact HK.out j h1 (by omega)
                    case measure => simp [intOf]; omega
                  · have HV : Hid (¬ d (m + k) = 0) := hv
                    generalize d (m + k) = z at ck hv
                    go_wp2_with fail
                    go_ret
                    exact ⟨Says.no rfl (HNo.out (fun hg => HV.out (HI2.out.1 hg k (by omega) hkW))), rfl⟩
                · obtain rfl : k = W := by omega
                  go_wp2_with fail
                  go_round
                  case rel =>
                    refine ⟨b + 1, by omega, by go_num, fun b' hb' => ?_⟩
                    by_cases e : b' = b
                    · subst e; exact HI2.out.2 (fun i h1 h2 => HK.out i h1 h2)
                    · exact HA.out b' (by omega)
                  case measure => simp [intOf]; omega
            · have hbit := and2_hi (x := x) (by omega)
              have hz' : ¬ (nx : Int) = 0 := by omega
              go_wp2_with fail
              go_ret
              exact ⟨Says.no rfl (HNo.out (fun hg => hz ((HI.out.1 hg).2.2.1 ht))), rfl⟩
          · have hbit := and2_lo (x := x) (by omega)
            have HI2 : Hid (Good B P d b ↔ ∀ i, nx * 68 ≤ i → i < W → d (m + i) = 255) := by
              refine HI.out.trans ⟨fun h i hi0 hi => ?_, fun h => ⟨by omega, by omega, fun _ => by omega, fun i hi0 hi => ?_⟩⟩
              · have := h.2.2.2 i (by omega) hi
                rwa [if_neg (by omega)] at this
              · rw [if_neg (by omega)]; exact h i (by omega) hi
            clear HI HG HWb
            go_wp2_with fail
            go_loop [12] (fun i => ∃ k : Nat, nx * 68 ≤ k ∧ k ≤ W ∧ i = .int .i64 k ∧ ∀ j, nx * 68 ≤ j → j < k → d (m + j) = 255) (fun i => W - (intOf i).toNat)
            case atStart => exact ⟨nx * 68, by omega, by omega, by go_num, fun j h1 h2 => by omega⟩
            case round =>
              obtain ⟨k, hk0, hk, rfl, hin⟩ := hrel
              have HK : Hid (∀ j, nx * 68 ≤ j → j < k → d (m + j) = 255) := hin
              clear hin
              by_cases hkW : k < W
              · have ck := HC.out k hkW
                have hkW' : (k : Int) < W := by omega
                have e3 : ((m : Int) + k) < M + 2 * B := by omega
                by_cases hv : d (m + k) = 255
                · rw [hv] at ck
                  have HV : Hid (d (m + k) = 255) := hv
                  clear hv
                  go_wp2_with fail
                  go_round
                  case rel =>
                    refine ⟨k + 1, by omega, by omega, by go_num, fun j h1 h2 => ?_⟩
                    by_cases e : j = k
                    · subst e; exact HV.out
                    · exact HK.out j h1 (by omega)
                  case measure => simp [intOf]; omega
                · have HV : Hid (¬ d (m + k) = 255) := hv
                  generalize d (m + k) = z at ck hv
                  go_wp2_with fail
                  go_ret
                  exact ⟨Says.no rfl (HNo.out (fun hg => HV.out (HI2.out.1 hg k (by omega) hkW))), rfl⟩
              · obtain rfl : k = W := by omega
                go_wp2_with fail
                go_round
                case rel =>
                  refine ⟨b + 1, by omega, by go_num, fun b' hb' => ?_⟩
                  by_cases e : b' = b
                  · subst e; exact HI2.out.2 (fun i h1 h2 => HK.out i h1 h2)
                  · exact HA.out b' (by omega)
                case measure => simp [intOf]; omega
    · obtain rfl : b = B := by omega
      go_wp2_with fail
      go_ret
      exact ⟨Says.yes rfl HA.out, rfl⟩
end Nd
end Go.Proofs.Ytjafjofonckaaaa
