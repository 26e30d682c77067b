/-
  The small parts of package tag: put, get, known and Clean, over any memory.
-/
import Derived.Test.YtgohmjidbbecpaaSums
namespace Go.Proofs.Ytgohmjidbbecpaa
open Go.ChangeShapes Go.WideShapes Go.ChangeAt Go.RowKit
namespace Tg

theorem pow8 (k : Nat) : (2 : Int) ^ (8 * k) = 256 ^ k := by rw [Int.pow_mul]; rfl

/-- The bytes of a number, the lowest first. -/
def le (x : Int) (i : Nat) : Int := x / 256 ^ i % 256
theorem le_bd (x : Int) (i : Nat) : 0 ≤ le x i ∧ le x i ≤ 255 := by unfold le; omega

theorem put_any {w : World} {g o n len cap : Nat} {f : Nat → Value} (h : Blk w g n f) (x : Int) (hl : 4 ≤ len) (hn : o + 4 ≤ n) :
    Calls Try.prog 19 #[.slice (some ⟨g, o, none⟩) len cap, .int .u32 x] w fun e w' => e = .returned (.tuple #[]) ∧ Blk w' g n (fun i => if o ≤ i ∧ i < o + 4 then .int .u8 (le x (i - o)) else f i) ∧ Keep (fun b => b = g) w w' := by
  go_enter Try.func19, Try.ntmps19
  go_wp2
  go_loopw [5] (fun i wr => ∃ k : Nat, k ≤ 4 ∧ i = .int .i64 k ∧ Blk wr g n (fun i => if o ≤ i ∧ i < o + k then .int .u8 (le x (i - o)) else f i) ∧ Keep (fun b => b = g) w wr) (fun i _ => 4 - (intOf i).toNat)
  case atStart => exact ⟨0, by omega, rfl, h.congr (fun i hi => by rw [if_neg (by omega)]), Keep.refl _ _⟩
  case round =>
    obtain ⟨k, hk, rfl, hb, hkp⟩ := hrel
    by_cases hlt : k < 4
    · have hc := (hb (o + k) (by omega)).1
      have hf := (hb (o + k) (by omega)).2
      go_wp2_with fail
      refine ⟨⟨k + 1, by omega, by go_num, (hb.set (o + k) _).congr (fun i hi => ?_), hkp.setCell (Or.inl rfl) _⟩, by simp [intOf]; omega⟩
      by_cases e : i = o + k
      · subst e
        rw [if_pos rfl, if_pos (by omega), pow8, le, show o + k - o = k by omega]
      · rw [if_neg e]
        by_cases e2 : o ≤ i ∧ i < o + k
        · rw [if_pos e2, if_pos (by omega)]
        · rw [if_neg e2, if_neg (by omega)]
    · obtain rfl : k = 4 := by omega
      go_wp2_with fail
      refine bodyPost_end (results_none rfl _ _ _) rfl ?_
      exact ⟨rfl, hb, hkp⟩

/-- The number that bytes are, the lowest first. -/
def num (d : Nat → Int) : Nat → Int
  | 0 => 0
  | k + 1 => num d k + d k * 256 ^ k
theorem num_bd {d : Nat → Int} (h : ∀ i, i < 4 → 0 ≤ d i ∧ d i ≤ 255) : ∀ k, k ≤ 4 → 0 ≤ num d k ∧ num d k < 256 ^ k
  | 0, _ => by simp [num]
  | k + 1, hk => by
    have ih := num_bd h k (by omega)
    have hd := h k (by omega)
    have hp : (0 : Int) < 256 ^ k := Int.pow_pos (by decide)
    rw [num, Int.pow_succ]
    generalize (256 : Int) ^ k = p at *
    have h1 : 0 ≤ d k * p := Int.mul_nonneg hd.1 (by omega)
    have h2 : d k * p ≤ 255 * p := Int.mul_le_mul_of_nonneg_right hd.2 (by omega)
    omega
theorem num4 (d : Nat → Int) : num d 4 = d 0 + 256 * d 1 + 65536 * d 2 + 16777216 * d 3 := by simp [num]; omega
theorem num_le {x : Int} (h : 0 ≤ x ∧ x ≤ 4294967295) : num (le x) 4 = x := by rw [num4]; simp only [le]; omega
theorem le_num {d : Nat → Int} (h : ∀ i, i < 4 → 0 ≤ d i ∧ d i ≤ 255) {i : Nat} (hi : i < 4) : le (num d 4) i = d i := by
  rw [num4, le]
  have h0 := h 0 (by omega); have h1 := h 1 (by omega); have h2 := h 2 (by omega); have h3 := h 3 (by omega)
  rcases i with _ | _ | _ | _ | i <;> (try omega) <;> (simp only [Nat.zero_add]; simp; omega)
theorem num_congr {d e : Nat → Int} (h : ∀ i, i < 4 → d i = e i) : num d 4 = num e 4 := by
  rw [num4, num4, h 0 (by omega), h 1 (by omega), h 2 (by omega), h 3 (by omega)]

theorem bor (a b : Nat) (ha : a < 4294967296) (hb : b < 4294967296) : bits .or .u32 (a : Int) (b : Int) = ((a ||| b : Nat) : Int) := by
  show IntKind.u32.wrap ((BitVec.ofInt 32 (a : Int) ||| BitVec.ofInt 32 (b : Int)).toNat : Int) = _
  have h1 : (a ||| b) < 2 ^ 32 := Nat.or_lt_two_pow ha hb
  rw [IntKind.wrap_u32, BitVec.toNat_or, BitVec.ofInt_natCast, BitVec.ofInt_natCast, BitVec.toNat_ofNat, BitVec.toNat_ofNat, Nat.mod_eq_of_lt ha, Nat.mod_eq_of_lt hb]
  omega

theorem or_add (p x y : Int) (k : Nat) (hp : p = 256 ^ k) (h0 : 0 ≤ x) (h1 : x < p) (hy : 0 ≤ y ∧ y ≤ 255) (hk : k < 4) : bits .or .u32 x (y * p % 4294967296) = x + y * p := by
  have hp1 : y * p < 4294967296 ∧ 0 ≤ y * p := by
    rcases k with _ | _ | _ | _ | k <;> (try omega) <;> (simp at hp; subst hp; omega)
  rw [Int.emod_eq_of_lt hp1.2 hp1.1]
  obtain ⟨a, rfl⟩ := Int.eq_ofNat_of_zero_le h0
  obtain ⟨b, rfl⟩ := Int.eq_ofNat_of_zero_le hy.1
  have e : ((b : Int) * p) = ((2 ^ (8 * k) * b : Nat) : Int) := by
    rw [hp, ← pow8]; push_cast; rw [Int.mul_comm]
  have ha : a < 2 ^ (8 * k) := by
    rw [hp, ← pow8] at h1
    exact_mod_cast h1
  rw [e] at hp1 ⊢
  rw [bor a _ (by have : (2:Nat) ^ (8 * k) ≤ 2 ^ 24 := Nat.pow_le_pow_right (by omega) (by omega); omega) (by omega), Nat.or_comm, ← Nat.two_pow_add_eq_or_of_lt ha]
  push_cast; omega

theorem or_num {d : Nat → Int} {k : Nat} (hk : k < 4) (h : ∀ i, i < 4 → 0 ≤ d i ∧ d i ≤ 255) : bits .or .u32 (num d k) (d k * 2 ^ (8 * k) % 4294967296) = num d (k + 1) := by
  have := num_bd h k (by omega)
  rw [pow8, or_add _ _ _ k rfl this.1 this.2 (h k hk) hk]; rfl

theorem get_any {w : World} {g o len cap : Nat} {d : Nat → Int} (h : ∀ i, i < 4 → w.cell? ⟨g, o + i, none⟩ = some (.int .u8 (d i))) (hd : ∀ i, i < 4 → 0 ≤ d i ∧ d i ≤ 255) (hl : 4 ≤ len) :
    Calls Try.prog 22 #[.slice (some ⟨g, o, none⟩) len cap] w fun e w' => e = .returned (.int .u32 (num d 4)) ∧ w' = w := by
  go_enter Try.func22, Try.ntmps22
  go_wp2
  go_loop [3, 5] (fun c i => ∃ k : Nat, k ≤ 4 ∧ i = .int .i64 k ∧ c = .int .u32 (num d k)) (fun _ i => 4 - (intOf i).toNat)
  case atStart => exact ⟨0, by omega, rfl, rfl⟩
  case round =>
    obtain ⟨k, hk, rfl, rfl⟩ := hrel
    by_cases hlt : k < 4
    · have hc := h k hlt
      have hdk := hd k hlt
      have HO : Hid (bits .or .u32 (num d k) (d k * 2 ^ (8 * k) % 4294967296) = num d (k + 1)) := or_num hlt hd
      have HB := num_bd hd k (by omega)
      generalize num d k = x at HO HB ⊢
      go_wp2_with fail
      go_round
      case rel => exact ⟨k + 1, by omega, by go_num, by rw [← HO.out]⟩
      case measure => simp [intOf]; omega
    · obtain rfl : k = 4 := by omega
      go_wp2_with fail
      go_ret
      exact ⟨rfl, rfl⟩

theorem ret_b {a b : Bool} (h : a = b) : Ending.returned (.bool a) = .returned (.bool b) := by rw [h]
theorem known_any (k : Int) (w : World) : Calls Try.prog 18 #[.int .i64 k] w fun e w' => e = .returned (.bool (decide (1 ≤ k ∧ k ≤ 3))) ∧ w' = w := by
  by_cases h1 : k = 1
  · subst h1; go_enter Try.func18, Try.ntmps18; go_wp2; go_ret; exact ⟨rfl, rfl⟩
  · by_cases h2 : k = 2
    · subst h2; go_enter Try.func18, Try.ntmps18; go_wp2; go_ret; exact ⟨rfl, rfl⟩
    · by_cases h3 : k = 3
      · subst h3; go_enter Try.func18, Try.ntmps18; go_wp2; go_ret; exact ⟨rfl, rfl⟩
      · go_enter Try.func18, Try.ntmps18; go_wp2; go_ret
        exact ⟨ret_b (by rw [Bool.eq_iff_iff]; simp; omega), rfl⟩

/-- All of 68 bytes are 255. -/
def cleanB (l : List Int) : Bool := decide (l.length = 68 ∧ ∀ x ∈ l, x = 255)
theorem clean_any {w : World} {a : Option Addr} {len cap : Nat} {l : List Int} (hr : Row w a len cap l) : Calls Try.prog 11 #[.slice a len cap] w fun e w' => e = .returned (.bool (cleanB l)) ∧ w' = w := by
  obtain ⟨h1, h2, h3, h4, h5⟩ := hr
  by_cases hl : len = 68
  · rcases h5 with h0 | ⟨b, o, rfl, hc⟩
    · omega
    subst hl
    go_enter Try.func11, Try.ntmps11
    go_wp2
    go_loop [10] (fun i => ∃ k : Nat, k ≤ 68 ∧ i = .int .i64 k ∧ ∀ j, j < k → l.getD j 0 = 255) (fun i => 68 - (intOf i).toNat)
    case atStart => exact ⟨0, by omega, rfl, fun j hj => by omega⟩
    case round =>
      obtain ⟨k, hk, rfl, hall⟩ := hrel
      by_cases hlt : k < 68
      · have hck := hc k hlt
        by_cases h255 : l.getD k 0 = 255
        · rw [h255] at hck
          have HA : Hid (∀ j, j < k → l.getD j 0 = 255) := hall
          have H5 : Hid (l.getD k 0 = 255) := h255
          clear hc hall h255 h1
          go_wp2_with fail
          go_round
          case rel =>
            refine ⟨k + 1, by omega, by go_num, fun j hj => ?_⟩
            by_cases e : j = k
            · subst e; exact H5.out
            · exact HA.out j (by omega)
          case measure => simp [intOf]; omega
        · have hn : cleanB l = false := by
            unfold cleanB; rw [decide_eq_false]
            rintro ⟨_, hx⟩
            exact h255 (hx _ (by simp [List.getD, h1, hlt]))
          have HN : Hid (cleanB l = false) := hn
          clear hn
          clear hc hall h1
          generalize l.getD k 0 = n at hck h255
          go_wp2_with fail
          go_ret
          exact ⟨ret_b HN.out.symm, rfl⟩
      · obtain rfl : k = 68 := by omega
        have hn : cleanB l = true := by
          unfold cleanB; rw [decide_eq_true]
          refine ⟨h1, fun x hx => ?_⟩
          obtain ⟨i, hi, rfl⟩ := List.getElem_of_mem hx
          have := hall i (by omega)
          simpa [List.getD, hi] using this
        go_wp2_with fail
        go_ret
        exact ⟨rfl, rfl⟩
  · have hn : cleanB l = false := by
      unfold cleanB; rw [decide_eq_false]
      rintro ⟨hx, _⟩
      omega
    have hl' : ¬ (len : Int) = 68 := by omega
    rw [hn]
    go_enter Try.func11, Try.ntmps11
    go_wp2
    go_ret
    exact ⟨rfl, rfl⟩
end Tg
end Go.Proofs.Ytgohmjidbbecpaa
