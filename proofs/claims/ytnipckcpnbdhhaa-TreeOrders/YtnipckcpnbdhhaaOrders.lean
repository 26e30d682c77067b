/-
  The statement TreeOrders, walked.
-/
import Derived.Test.YtnipckcpnbdhhaaOrdM
namespace Go.Proofs.Ytnipckcpnbdhhaa
open Go.ChangeShapes Go.WideShapes Go.ChangeAt Go.RowKit
namespace Tg

/-- Two trees, apart, made since w, each with its set of numbers and at most m of them. -/
structure Two (w wr : World) (b p k c q j : Nat) (m : Nat) (P Q : Int → Prop) : Prop where
  fa : ∃ l t, Mt w wr b p k 512 l t ∧ Cont t P ∧ t.views.length ≤ m
  fb : ∃ l t, Mt w wr c q j 512 l t ∧ Cont t Q ∧ t.views.length ≤ m
  ap : ∀ x, Own3 b p k x → ¬ Own3 c q j x

theorem Two.more {w wr w' : World} {b p k c q j m : Nat} {P Q : Int → Prop} (h : Two w wr b p k c q j m P Q) (hk : Keep (fun _ => False) wr w') : Two w w' b p k c q j m P Q := by
  obtain ⟨l, t, h1, h2, h3⟩ := h.fa
  obtain ⟨l', t', h4, h5, h6⟩ := h.fb
  exact ⟨⟨l, t, h1.more hk, h2, h3⟩, ⟨l', t', h4.more hk, h5, h6⟩, h.ap⟩
theorem Two.keep {w wr : World} {b p k c q j m : Nat} {P Q : Int → Prop} (h : Two w wr b p k c q j m P Q) : Keep (fun _ => False) w wr := by
  obtain ⟨l, t, h1, h2, h3⟩ := h.fa
  exact h1.keep
theorem Mt.mine {w wr : World} {b p k N : Nat} {l : List Nat} {t : Tr} (h : Mt w wr b p k N l t) : ∀ x, Own3 b p k x → w.heap.size ≤ x := by
  rintro x (e | e | e)
  · rw [e]; exact h.b
  · rw [e]; exact h.p
  · rw [e]; exact h.k
theorem Own3.b (b p k : Nat) : Own3 b p k b := Or.inl rfl
theorem Own3.p (b p k : Nat) : Own3 b p k p := Or.inr (Or.inl rfl)
theorem Own3.k (b p k : Nat) : Own3 b p k k := Or.inr (Or.inr rfl)
theorem Two.insA {w wr : World} {b p k c q j m : Nat} {P Q : Int → Prop} (h : Two w wr b p k c q j m P Q) (hm : m < 512) (z : Int) :
    Calls Try.prog 10 #[.pointer (some ⟨b, 0, none⟩), .agg (rnA ⟨z, 1, 7⟩)] wr fun e w' => (∃ c, e = .returned (.int .i64 c)) ∧ Two w w' b p k c q j (m + 1) (fun y => y = z ∨ P y) Q := by
  obtain ⟨l, t, h1, h2, h3⟩ := h.fa
  obtain ⟨l', t', h4, h5, h6⟩ := h.fb
  refine (h1.insAny h2 (by omega) z).mono ?_
  rintro e w' ⟨he, ⟨l2, t2, hM, hc, hl⟩, hk⟩
  have hno := h.ap
  exact ⟨he, ⟨⟨l2, t2, hM, hc, by omega⟩, ⟨l', t', h4.other hk h1.mine (fun e => hno _ e (Own3.b _ _ _)) (fun e => hno _ e (Own3.p _ _ _)) (fun e => hno _ e (Own3.k _ _ _)), h5, by omega⟩, h.ap⟩⟩
theorem Two.insB {w wr : World} {b p k c q j m : Nat} {P Q : Int → Prop} (h : Two w wr b p k c q j m P Q) (hm : m < 512) (z : Int) :
    Calls Try.prog 10 #[.pointer (some ⟨c, 0, none⟩), .agg (rnA ⟨z, 1, 7⟩)] wr fun e w' => (∃ c, e = .returned (.int .i64 c)) ∧ Two w w' b p k c q j (m + 1) P (fun y => y = z ∨ Q y) := by
  obtain ⟨l, t, h1, h2, h3⟩ := h.fa
  obtain ⟨l', t', h4, h5, h6⟩ := h.fb
  refine (h4.insAny h5 (by omega) z).mono ?_
  rintro e w' ⟨he, ⟨l2, t2, hM, hc, hl⟩, hk⟩
  have hno := h.ap
  exact ⟨he, ⟨⟨l, t, h1.other hk h4.mine (fun e => hno _ (Own3.b _ _ _) e) (fun e => hno _ (Own3.p _ _ _) e) (fun e => hno _ (Own3.k _ _ _) e), h2, by omega⟩, ⟨l2, t2, hM, hc, by omega⟩, h.ap⟩⟩
theorem Two.delA {w wr : World} {b p k c q j m : Nat} {P Q : Int → Prop} (h : Two w wr b p k c q j m P Q) (z : Int) :
    Calls Try.prog 13 #[.pointer (some ⟨b, 0, none⟩), .int .i64 z] wr fun e w' => (∃ c, e = .returned (.int .i64 c)) ∧ Two w w' b p k c q j 512 (fun y => P y ∧ y ≠ z) Q := by
  obtain ⟨l, t, h1, h2, h3⟩ := h.fa
  obtain ⟨l', t', h4, h5, h6⟩ := h.fb
  refine (h1.delAny h2 z).mono ?_
  rintro e w' ⟨he, ⟨l2, t2, hM, hc⟩, hk⟩
  have hno := h.ap
  have r1 := hM.room
  have r2 := h4.room
  exact ⟨he, ⟨⟨l2, t2, hM, hc, by omega⟩, ⟨l', t', h4.other hk h1.mine (fun e => hno _ e (Own3.b _ _ _)) (fun e => hno _ e (Own3.p _ _ _)) (fun e => hno _ e (Own3.k _ _ _)), h5, by omega⟩, h.ap⟩⟩
theorem Two.delB {w wr : World} {b p k c q j m : Nat} {P Q : Int → Prop} (h : Two w wr b p k c q j m P Q) (z : Int) :
    Calls Try.prog 13 #[.pointer (some ⟨c, 0, none⟩), .int .i64 z] wr fun e w' => (∃ c, e = .returned (.int .i64 c)) ∧ Two w w' b p k c q j 512 P (fun y => Q y ∧ y ≠ z) := by
  obtain ⟨l, t, h1, h2, h3⟩ := h.fa
  obtain ⟨l', t', h4, h5, h6⟩ := h.fb
  refine (h4.delAny h5 z).mono ?_
  rintro e w' ⟨he, ⟨l2, t2, hM, hc⟩, hk⟩
  have hno := h.ap
  have r1 := h1.room
  have r2 := hM.room
  exact ⟨he, ⟨⟨l, t, h1.other hk h4.mine (fun e => hno _ (Own3.b _ _ _) e) (fun e => hno _ (Own3.p _ _ _) e) (fun e => hno _ (Own3.k _ _ _) e), h2, by omega⟩, ⟨l2, t2, hM, hc, by omega⟩, h.ap⟩⟩
theorem Two.congr {w wr : World} {b p k c q j m m' : Nat} {P Q P' Q' : Int → Prop} (h : Two w wr b p k c q j m P Q) (hm : m ≤ m') (e1 : ∀ z, P z ↔ P' z) (e2 : ∀ z, Q z ↔ Q' z) : Two w wr b p k c q j m' P' Q' := by
  obtain ⟨l, t, h1, h2, h3⟩ := h.fa
  obtain ⟨l', t', h4, h5, h6⟩ := h.fb
  exact ⟨⟨l, t, h1, h2.congr e1, by omega⟩, ⟨l', t', h4, h5.congr e2, by omega⟩, h.ap⟩

set_option maxRecDepth 100000 in
set_option maxHeartbeats 2000000 in
theorem orders_out (w : World) (a : Option Addr) (la ca : Nat) (a' : Option Addr) (lb cb : Nat) (hla : la ≤ 9223372036854775807) (hlb : lb ≤ 9223372036854775807) (hb : 100 < la ∨ 100 < lb) :
    Calls Try.prog 6 #[.slice a la ca, .slice a' lb cb] w fun e w' => e = .returned (.bool true) ∧ Keep (fun _ => False) w w' := by
  have haw := awake_any w
  by_cases h1 : 100 < la
  · have d1 : (100 : Int) < (la : Int) := by omega
    clear hb
    go_enter Try.func6, Try.ntmps6
    go_wp2_with (go_at_call 7; refine haw.mono ?_; rintro e w0 ⟨rfl, k0⟩)
    go_ret
    exact ⟨rfl, k0⟩
  · have d1 : ¬ (100 : Int) < (la : Int) := by omega
    have d2 : (100 : Int) < (lb : Int) := by omega
    clear hb
    go_enter Try.func6, Try.ntmps6
    go_wp2_with (go_at_call 7; refine haw.mono ?_; rintro e w0 ⟨rfl, k0⟩)
    go_ret
    exact ⟨rfl, k0⟩

theorem take_next {L : List Int} {i : Nat} {x : Int} (h : L[i]? = some x) (z : Int) : (z = x ∨ z ∈ L.take i) ↔ z ∈ L.take (i + 1) := by
  rw [List.take_add_one, h, List.mem_append]
  simp only [Option.toList_some, List.mem_singleton]
  exact Or.comm
theorem getD_of {L : List Int} {i : Nat} {x : Int} (h : L[i]? = some x) : L.getD i 0 = x := by simp [List.getD, h]
theorem get_some {L : List Int} {i : Nat} (h : i < L.length) : ∃ x, L[i]? = some x ∧ L.getD i 0 = x := ⟨_, List.getElem?_eq_getElem h, by simp [List.getD, h]⟩
theorem rev_get {L : List Int} {i : Nat} {x : Int} (hi : i < L.length) (h : L[L.length - 1 - i]? = some x) : L.reverse[i]? = some x := by
  rw [List.getElem?_reverse hi]; exact h

set_option maxRecDepth 100000 in
set_option maxHeartbeats 4000000 in
theorem orders_in (w : World) (a : Option Addr) (la ca : Nat) (a' : Option Addr) (lb cb : Nat) (L O : List Int) (hL : Nums w a la ca L) (hO : Nums w a' lb cb O) (h1 : la ≤ 100) (h2 : lb ≤ 100) :
    Calls Try.prog 6 #[.slice a la ca, .slice a' lb cb] w fun e w' => e = .returned (.bool true) ∧ Keep (fun _ => False) w w' := by
  have haw := awake_any w
  have d1 : ¬ (100 : Int) < (la : Int) := by omega
  have d2 : ¬ (100 : Int) < (lb : Int) := by omega
  have d3 : (la : Int) ≤ 9223372036854775807 := by omega
  have d4 : (lb : Int) ≤ 9223372036854775807 := by omega
  go_enter Try.func6, Try.ntmps6
  go_wp2_with (go_at_call 7; refine haw.mono ?_; rintro e w0 ⟨rfl, k0⟩)
  have hnew := arena_any w0 (n := 512) (by omega) (by omega)
  rw [show ((512 : Nat) : Int) = 512 from rfl] at hnew
  refine hnew.mono ?_
  rintro e w1 ⟨p, k, rfl, m1, hp, hkk, k1⟩
  clear hnew haw
  have hnew := arena_any w1 (n := 512) (by omega) (by omega)
  rw [show ((512 : Nat) : Int) = 512 from rfl] at hnew
  go_wp2_with fail
  refine hnew.mono ?_
  rintro e w2 ⟨q, j, rfl, m2, hq, hj, k2⟩
  clear hnew
  have hp1 := m1.top.lt (by omega)
  have hk1 := m1.blk.lt (by show 0 < 512 * 8; omega)
  have m1' := m1.keep k2 (fun e => e) (fun e => e)
  have hnew := Mt.new (w := w0) (by omega) (by omega) m1' hp hkk (k1.trans k2)
  have hs1 := k1.size
  have hs2 := k2.size
  have hp2 := m2.top.lt (by omega)
  have hk2 := m2.blk.lt (by show 0 < 512 * 8; omega)
  go_wp2_with fail
  refine hnew.mono ?_
  rintro e w3 ⟨rfl, h3, k3⟩
  clear hnew
  have m2' := m2.keep k3 (fun e => e) (fun e => e)
  have hb3 := h3.lt.1
  have hnew := Mt.new (w := w0) (by omega) (by omega) m2' (by omega) (by omega) ((k1.trans k2).trans k3)
  go_wp2_with fail
  refine hnew.mono ?_
  rintro e w4 ⟨rfl, h4, k4⟩
  clear hnew
  have H4 : Two w0 w4 w2.heap.size p k w3.heap.size q j 0 (fun z => z ∈ L.take 0) (fun z => z ∈ L.reverse.take 0) := by
    refine ⟨⟨_, _, h3.more k4, ⟨fun x hx => by simp [Tr.runs, Tr.seq] at hx, fun z => by simp [Tr.Has]⟩, Nat.le_refl _⟩, ⟨_, _, h4, ⟨fun x hx => by simp [Tr.runs, Tr.seq] at hx, fun z => by simp [Tr.Has]⟩, Nat.le_refl _⟩, ?_⟩
    rintro x (e | e | e) (e' | e' | e') <;> omega
  generalize w2.heap.size = b at H4 ⊢
  generalize w3.heap.size = c at H4 ⊢
  clear m1 m2 m1' m2' hp1 hk1 hp2 hk2 hs1 hs2 h3 h4 hb3 k1 k2 k3 k4 hp hkk hq hj
  have hLl := hL.1
  have hOl := hO.1
  have eL : Hid (L.length = la) := hLl
  have eO : Hid (O.length = lb) := hOl
  have f1 : Hid (la ≤ 100) := h1
  have f2 : Hid (lb ≤ 100) := h2
  clear hLl hOl h1 h2
  go_wp2_with fail
  go_loopw [11] (fun x wr => ∃ i : Nat, i ≤ la ∧ x = .int .i64 (i : Int) ∧ Two w0 wr b p k c q j (2 * i) (fun z => z ∈ L.take i) (fun z => z ∈ L.reverse.take i)) (fun x _ => la - (intOf x).toNat)
  case atStart => exact ⟨0, by omega, rfl, H4⟩
  case round =>
    obtain ⟨i, hi, rfl, hT⟩ := hrel
    clear H4
    by_cases hlt : i < la
    · have dq : (i : Int) < (la : Int) := by omega
      have dq1 : IntKind.i64.wrap ((i : Int) + 1) = (i : Int) + 1 := by have : la ≤ 100 := f1; rw [IntKind.wrap_i64]; omega
      have hLr := hL.keep (k0.trans hT.keep) (fun _ _ _ e => e)
      obtain ⟨_, hcap, _, hcs⟩ := hLr
      rcases hcs with h0 | ⟨bb, o, rfl, hcs⟩
      · omega
      obtain ⟨x, gx, ex⟩ := get_some (L := L) (i := i) (by rw [(show L.length = la from eL)]; exact hlt)
      obtain ⟨y, gy, ey⟩ := get_some (L := L) (i := la - 1 - i) (by rw [(show L.length = la from eL)]; omega)
      have cx := hcs i hlt
      rw [ex] at cx
      have hrun := run_any wr x
      rw [rnA_lit] at hrun
      have tx := take_next gx
      have gyr := rev_get (L := L) (i := i) (by rw [(show L.length = la from eL)]; exact hlt) (by rw [(show L.length = la from eL)]; exact gy)
      have ty := take_next gyr
      have hlt' : Hid (i < la) := hlt
      have hty : Hid (∀ z, (z = y ∨ z ∈ L.reverse.take i) ↔ z ∈ L.reverse.take (i + 1)) := ty
      have htx : Hid (∀ z, (z = x ∨ z ∈ L.take i) ↔ z ∈ L.take (i + 1)) := tx
      have dr0 : IntKind.i64.wrap ((la : Int) - 1) = (la : Int) - 1 := by have : la ≤ 100 := f1; rw [IntKind.wrap_i64]; omega
      obtain ⟨rr, hrr⟩ : ∃ rr, rr = la - 1 - i := ⟨_, rfl⟩
      have dr1 : IntKind.i64.wrap ((la : Int) - 1 - (i : Int)) = (rr : Int) := by have : la ≤ 100 := f1; rw [IntKind.wrap_i64] <;> omega
      have dr2 : (rr : Int) < (la : Int) := by omega
      have hrr' : Hid (rr = la - 1 - i) := hrr
      have hcs' : Hid (∀ i, i < la → wr.cell? ⟨bb, o + i, none⟩ = some (.int .i64 (L.getD i 0))) := hcs
      clear hlt tx ty gx gyr gy hcs hrr ex
      go_wp2_with fail
      refine hrun.mono ?_
      rintro e w5 ⟨rfl, k5⟩
      have hins := (hT.more k5).insA (by have : la ≤ 100 := f1; omega) x
      rw [rnA_lit] at hins
      clear hrun
      go_wp2_with fail
      refine hins.mono ?_
      rintro e w6 ⟨⟨c6, rfl⟩, h6⟩
      clear hins hT k5 cx
      have hLr6 := hL.keep (k0.trans h6.keep) (fun _ _ _ e => e)
      have cy : w6.cell? ⟨bb, o + rr, none⟩ = some (.int .i64 y) := by
        obtain ⟨_, _, _, hcs6⟩ := hLr6
        rcases hcs6 with h0 | ⟨b6, o6, e6, hcs6⟩
        · have : i < la := hlt'; omega
        · simp only [Option.some.injEq, Addr.mk.injEq, and_true] at e6
          obtain ⟨rfl, rfl⟩ := e6
          rw [hcs6 rr (by omega), (show rr = la - 1 - i from hrr'), ey]
      have hrun := run_any w6 y
      rw [rnA_lit] at hrun
      clear hLr6 ey
      go_wp2_with fail
      refine hrun.mono ?_
      rintro e w7 ⟨rfl, k7⟩
      have hins := (h6.more k7).insB (by have : la ≤ 100 := f1; have : i < la := hlt'; omega) y
      rw [rnA_lit] at hins
      clear hrun h6 k7 cy
      go_wp2_with fail
      refine hins.mono ?_
      rintro e w8 ⟨⟨c8, rfl⟩, h8⟩
      have h9 := h8.congr (m' := 2 * (i + 1)) (by omega) htx hty
      clear hins h8
      go_wp2_with fail
      go_roundw
      case rel => exact ⟨i + 1, hlt', by go_num, h9⟩
      case measure => have : i < la := hlt'; simp [intOf]; omega
    · have dq : ¬ (i : Int) < (la : Int) := by omega
      obtain rfl : i = la := by omega
      have hT2 : Two w0 wr b p k c q j 512 (fun z => z ∈ L ∧ z ∉ O.take 0) (fun z => z ∈ L ∧ z ∉ O.reverse.take 0) := hT.congr (by have : i ≤ 100 := f1; omega)
        (fun z => by rw [List.take_of_length_le (by rw [(show L.length = i from eL)]; omega)]; simp) (fun z => by rw [List.take_of_length_le (by rw [List.length_reverse, (show L.length = i from eL)]; omega)]; simp)
      clear hT hi hlt
      go_wp2_with fail
      go_loopw [12] (fun x wr => ∃ n : Nat, n ≤ lb ∧ x = .int .i64 (n : Int) ∧ Two w0 wr b p k c q j 512 (fun z => z ∈ L ∧ z ∉ O.take n) (fun z => z ∈ L ∧ z ∉ O.reverse.take n)) (fun x _ => lb - (intOf x).toNat)
      case atStart => exact ⟨0, by omega, rfl, hT2⟩
      case round =>
        obtain ⟨n, hn, rfl, hT⟩ := hrel
        clear hT2
        by_cases hlt : n < lb
        · have dn : (n : Int) < (lb : Int) := by omega
          have dn1 : IntKind.i64.wrap ((n : Int) + 1) = (n : Int) + 1 := by have : lb ≤ 100 := f2; rw [IntKind.wrap_i64]; omega
          have hOr := hO.keep (k0.trans hT.keep) (fun _ _ _ e => e)
          obtain ⟨_, hcap, _, hcs⟩ := hOr
          rcases hcs with h0 | ⟨bb, o, rfl, hcs⟩
          · omega
          obtain ⟨x, gx, ex⟩ := get_some (L := O) (i := n) (by rw [(show O.length = lb from eO)]; exact hlt)
          obtain ⟨y, gy, ey⟩ := get_some (L := O) (i := lb - 1 - n) (by rw [(show O.length = lb from eO)]; omega)
          have cx := hcs n hlt
          rw [ex] at cx
          have tx := take_next gx
          have gyr := rev_get (L := O) (i := n) (by rw [(show O.length = lb from eO)]; exact hlt) (by rw [(show O.length = lb from eO)]; exact gy)
          have ty := take_next gyr
          have hlt' : Hid (n < lb) := hlt
          have hty : Hid (∀ z, ((z ∈ L ∧ z ∉ O.reverse.take n) ∧ z ≠ y) ↔ (z ∈ L ∧ z ∉ O.reverse.take (n + 1))) := fun z => by rw [← ty z, and_assoc, not_or]; exact and_congr_right (fun _ => And.comm)
          have htx : Hid (∀ z, ((z ∈ L ∧ z ∉ O.take n) ∧ z ≠ x) ↔ (z ∈ L ∧ z ∉ O.take (n + 1))) := fun z => by rw [← tx z, and_assoc, not_or]; exact and_congr_right (fun _ => And.comm)
          have dr0 : IntKind.i64.wrap ((lb : Int) - 1) = (lb : Int) - 1 := by have : lb ≤ 100 := f2; rw [IntKind.wrap_i64]; omega
          obtain ⟨rr, hrr⟩ : ∃ rr, rr = lb - 1 - n := ⟨_, rfl⟩
          have dr1 : IntKind.i64.wrap ((lb : Int) - 1 - (n : Int)) = (rr : Int) := by have : lb ≤ 100 := f2; rw [IntKind.wrap_i64] <;> omega
          have dr2 : (rr : Int) < (lb : Int) := by omega
          have hrr' : Hid (rr = lb - 1 - n) := hrr
          have hdel := hT.delA x
          clear hlt tx ty gx gyr gy hcs hrr ex hT
          go_wp2_with fail
          refine hdel.mono ?_
          rintro e w6 ⟨⟨c6, rfl⟩, h6⟩
          clear hdel cx
          have hOr6 := hO.keep (k0.trans h6.keep) (fun _ _ _ e => e)
          have cy : w6.cell? ⟨bb, o + rr, none⟩ = some (.int .i64 y) := by
            obtain ⟨_, _, _, hcs6⟩ := hOr6
            rcases hcs6 with h0 | ⟨b6, o6, e6, hcs6⟩
            · have : n < lb := hlt'; omega
            · simp only [Option.some.injEq, Addr.mk.injEq, and_true] at e6
              obtain ⟨rfl, rfl⟩ := e6
              rw [hcs6 rr (by omega), (show rr = lb - 1 - n from hrr'), ey]
          have hdel := h6.delB y
          clear hOr6 ey h6
          go_wp2_with fail
          refine hdel.mono ?_
          rintro e w8 ⟨⟨c8, rfl⟩, h8⟩
          have h9 := h8.congr (m' := 512) (Nat.le_refl _) htx hty
          clear hdel h8 cy
          go_wp2_with fail
          go_roundw
          case rel => exact ⟨n + 1, hlt', by go_num, h9⟩
          case measure => have : n < lb := hlt'; simp [intOf]; omega
        · have dn : ¬ (n : Int) < (lb : Int) := by omega
          obtain rfl : n = lb := by omega
          obtain ⟨l1, t, hA, cA, vA⟩ := hT.fa
          obtain ⟨l2, u, hB, cB, vB⟩ := hT.fb
          have hsame : t.runs = u.runs := cA.same cB hA.ord hB.ord (fun z => by
            rw [List.take_of_length_le (by rw [(show O.length = n from eO)]; omega), List.take_of_length_le (by rw [List.length_reverse, (show O.length = n from eO)]; omega), List.mem_reverse])
          have hvl : u.views.length = t.views.length := by
            have e1 := congrArg List.length t.views_runs
            have e2 := congrArg List.length u.views_runs
            simp only [List.length_map] at e1 e2
            rw [e1, e2, hsame]
          have hup : Tr.Up t.runs := Tr.ord_up.1 hA.ord
          have hrl : t.runs.length = t.views.length := by rw [← Tr.views_runs]; simp
          have hall := hA.all
          clear hT cA cB hn hlt
          go_wp2_with fail
          refine hall.mono ?_
          rintro e w5 ⟨rfl, R5, k5⟩
          have hall := (hB.more k5).all
          have hA5 := hA.more k5
          have hB5 := hB.more k5
          rw [← hsame, hvl] at hall
          generalize wr.heap.size = G at R5 ⊢
          clear hA k5
          go_wp2_with fail
          refine hall.mono ?_
          rintro e w6 ⟨rfl, R6, k6⟩
          have hA6 := hA5.more k6
          have hB6 := hB5.more k6
          have RA := R5.more k6
          generalize w5.heap.size = F at R6 ⊢
          clear hall hA5 hB5 hB k6 R5
          have hlen := hA6.len
          have HK := k0.trans hA6.keep
          have dV : (t.views.length : Int) ≤ 9223372036854775807 := by omega
          have e1 : Hid (t.runs.length = t.views.length) := hrl
          have e2 : Hid (Tr.Up t.runs) := hup
          have e3 : Hid (t.views.length ≤ 512) := vA
          have hvl' : Hid (u.views.length = t.views.length) := hvl
          generalize hV : t.views.length = V at *
          have hV' : Hid (t.views.length = V) := hV
          clear hup hrl hsame vA vB hvl hV
          go_wp2_with (go_at_call 15; refine hlen.mono ?_; rintro e wz ⟨rfl, e0⟩; have e0 := e0.symm; subst e0)
          clear hlen
          go_loopw [15] (fun x wr => ∃ m : Nat, m ≤ V ∧ x = .int .i64 (m : Int) ∧ Keep (fun _ => False) w6 wr) (fun x _ => V - (intOf x).toNat)
          case atStart => exact ⟨0, by omega, rfl, Keep.refl _ _⟩
          case round =>
            obtain ⟨m, hm, rfl, hK⟩ := hrel
            by_cases hlt : m < V
            · have dm : (m : Int) < (V : Int) := by omega
              have dm1 : IntKind.i64.wrap ((m : Int) + 1) = (m : Int) + 1 := by have : V ≤ 512 := e3; rw [IntKind.wrap_i64]; omega
              have hlt' : Hid (m < V) := hlt
              obtain ⟨x, hx⟩ : ∃ x, t.runs[m]? = some x := ⟨_, List.getElem?_eq_getElem (by rw [(show t.runs.length = V from e1)]; exact hlt)⟩
              have RA' := RA.more hK
              have RB' := R6.more hK
              have a0 : wr.cell? ⟨G, m * 3, none⟩ = some (.int .i64 x.lba) := RA'.cells (m * 3 + 0) _ (by rw [rcells_at hx 0 (by omega)]; rfl)
              have a1 : wr.cell? ⟨G, m * 3 + 1, none⟩ = some (.int .i64 x.len) := RA'.cells (m * 3 + 1) _ (by rw [rcells_at hx 1 (by omega)]; rfl)
              have a2 : wr.cell? ⟨G, m * 3 + 2, none⟩ = some (.int .i64 x.phys) := RA'.cells (m * 3 + 2) _ (by rw [rcells_at hx 2 (by omega)]; rfl)
              have b0 : wr.cell? ⟨F, m * 3, none⟩ = some (.int .i64 x.lba) := RB'.cells (m * 3 + 0) _ (by rw [rcells_at hx 0 (by omega)]; rfl)
              have b1 : wr.cell? ⟨F, m * 3 + 1, none⟩ = some (.int .i64 x.len) := RB'.cells (m * 3 + 1) _ (by rw [rcells_at hx 1 (by omega)]; rfl)
              have b2 : wr.cell? ⟨F, m * 3 + 2, none⟩ = some (.int .i64 x.phys) := RB'.cells (m * 3 + 2) _ (by rw [rcells_at hx 2 (by omega)]; rfl)
              cases m with
              | zero =>
                rw [show ((0 : Nat) : Int) = 0 from rfl] at *
                simp only [Nat.zero_mul, Nat.zero_add] at a0 a1 a2 b0 b1 b2
                clear RA' RB' hlt hx
                go_wp2_with fail
                go_quiet (fail)
                go_wp2_with fail
                go_roundw
                case rel => exact ⟨1, hlt', rfl, hK.drewN _⟩
                case measure => have : 0 < V := hlt'; simp [intOf]; omega
              | succ e =>
                obtain ⟨y, hy⟩ : ∃ y, t.runs[e]? = some y := ⟨_, List.getElem?_eq_getElem (by rw [(show t.runs.length = V from e1)]; omega)⟩
                have c0 : wr.cell? ⟨G, e * 3, none⟩ = some (.int .i64 y.lba) := RA'.cells (e * 3 + 0) _ (by rw [rcells_at hy 0 (by omega)]; rfl)
                have hyx : y.lba < x.lba := by
                  have := List.pairwise_iff_getElem.1 (show Tr.Up t.runs from e2) e (e + 1) (List.getElem?_eq_some_iff.1 hy).1 (List.getElem?_eq_some_iff.1 hx).1 (by omega)
                  rwa [(List.getElem?_eq_some_iff.1 hy).2, (List.getElem?_eq_some_iff.1 hx).2] at this
                have dd : ¬ x.lba ≤ y.lba := by omega
                have de : IntKind.i64.wrap ((e : Int) + 1 - 1) = (e : Int) := by have : V ≤ 512 := e3; rw [IntKind.wrap_i64] <;> omega
                have de0 : (0 : Int) < (e : Int) + 1 := by omega
                have de1 : (e : Int) < (V : Int) := by omega
                rw [show ((e + 1 : Nat) : Int) = (e : Int) + 1 from rfl] at *
                clear RA' RB' hlt hx hy hyx
                go_wp2_with fail
                go_quiet (fail)
                go_wp2_with fail
                go_roundw
                case rel => exact ⟨e + 2, hlt', by go_num, hK.drewN _⟩
                case measure => have : e + 1 < V := hlt'; simp [intOf]; omega
            · have dm : ¬ (m : Int) < (V : Int) := by omega
              have lvA := (hA6.more hK).live
              have lvB := (hB6.more hK).live
              rw [(show u.views.length = V from hvl')] at lvB
              rw [(show t.views.length = V from hV')] at lvA
              have HK2 := HK.trans hK
              clear hlt
              go_wp2_with fail
              refine lvA.mono ?_
              rintro e wz ⟨rfl, e0⟩
              have e0 := e0.symm
              subst e0
              go_wp2_with fail
              refine lvB.mono ?_
              rintro e wz ⟨rfl, e0⟩
              have e0 := e0.symm
              subst e0
              go_wp2_with fail
              go_ret
              exact ⟨rfl, HK2⟩

theorem orders_walk (w : World) {a : Option Addr} {la ca : Nat} {a' : Option Addr} {lb cb : Nat} {L O : List Int} (hL : Nums w a la ca L) (hO : Nums w a' lb cb O) :
    Calls Try.prog 6 #[.slice a la ca, .slice a' lb cb] w fun e w' => e = .returned (.bool true) ∧ Below w.heap.size w w' := by
  have hb : ∀ e w', e = Ending.returned (.bool true) ∧ Keep (fun _ => False) w w' → e = Ending.returned (.bool true) ∧ Below w.heap.size w w' := fun e w' h => ⟨h.1, h.2.below (Nat.le_refl _) (fun _ e => e.elim)⟩
  have l1 := hL.2.1
  have l2 := hL.2.2.1
  have l3 := hO.2.1
  have l4 := hO.2.2.1
  by_cases h : 100 < la ∨ 100 < lb
  · exact (orders_out w a la ca a' lb cb (by omega) (by omega) h).mono hb
  · exact (orders_in w a la ca a' lb cb L O hL hO (by omega) (by omega)).mono hb
end Tg
end Go.Proofs.Ytnipckcpnbdhhaa
