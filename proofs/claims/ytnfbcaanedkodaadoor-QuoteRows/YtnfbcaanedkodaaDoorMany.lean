/-
  The law QuoteRows over any memory in which the library's error lies.
-/
import Derived.Test.YtnfbcaanedkodaaDoorTells
import Derived.Test.YtnfbcaanedkodaaDoorCuts
import Derived.Deep.Strs
namespace Go.Proofs.YtnfbcaanedkodaaDoor
open Go.ChangeShapes Go.WideShapes Go.ChangeAt Go.RowKit
namespace Tg
open Qm

/-- A row of texts in memory. -/
def Strs (w : World) (a : Option Addr) (len : Nat) (f : Nat → ByteArray) : Prop :=
  (∀ i, i < len → (f i).size ≤ 9223372036854775807) ∧ (len = 0 ∨ ∃ b o, a = some ⟨b, o, none⟩ ∧ ∀ i, i < len → w.cell? ⟨b, o + i, none⟩ = some (.string (f i)))
theorem Strs.keep {w w' : World} {a : Option Addr} {len : Nat} {f : Nat → ByteArray} (h : Strs w a len f) (k : Keep (fun _ => False) w w') : Strs w' a len f := by
  refine ⟨h.1, h.2.imp id ?_⟩
  rintro ⟨b, o, rfl, hc⟩
  refine ⟨b, o, rfl, fun i hi => ?_⟩
  have := hc i hi
  rw [← this]
  exact World.cell?_of_block (w := w) (a := ⟨b, o + i, none⟩) (k.block b (World.block_lt_of_cell? w _ this) (fun e => e))
theorem open_texts {H : Type} {enc : TypeId × Value → H} {W : World} {a : Option Addr} {len cap : Nat} {d : DataW H} {p : List MemPlace}
    (h : DataW.Trod enc Tryd.prog W 0 (fun _ => true) true 35 (.slice a len cap) d p) : ∃ f, Strs W a len f ∧ len ≤ 9223372036854775807 := by
  obtain ⟨fuel, hf⟩ := h
  rcases Go.Deep.open_strs Tryd.underlying35 Tryd.underlying9 cells9 hf with ⟨hcs, hx⟩ | ⟨x, l, c, m, Sx, hcs, _, hl, hm, hmm, hx, hcell⟩
  · simp [Value.cells] at hcs
    obtain ⟨rfl, rfl, rfl⟩ := hcs
    exact ⟨fun _ => ByteArray.empty, ⟨fun i hi => absurd hi (by omega), Or.inl rfl⟩, by omega⟩
  · simp [Value.cells] at hcs
    obtain ⟨rfl, rfl, rfl⟩ := hcs
    simp at hmm
    unfold maxLen at hcell hm
    refine ⟨Sx, ⟨fun i hi => (hcell i (by omega)).2, ?_⟩, by omega⟩
    by_cases h0 : len = 0
    · exact Or.inl h0
    · right
      obtain ⟨b, off, spot⟩ := x
      have hc := (hcell 0 (by omega)).1
      have hspot : spot = none := by simpa [Addr.add] using World.cell?_spot hc
      subst hspot
      refine ⟨b, off, rfl, fun i hi => ?_⟩
      have := (hcell i (by omega)).1
      rwa [Addr.add_lit] at this

/-- Texts told one behind the other. -/
def cat (f : Nat → ByteArray) : Nat → Nat → List Nat
  | _, 0 => []
  | k, n + 1 => told (bs (f k)) ++ cat f (k + 1) n
theorem cat_snoc (f : Nat → ByteArray) : ∀ n k, cat f k (n + 1) = cat f k n ++ told (bs (f (k + n)))
  | 0, k => by simp [cat]
  | n + 1, k => by
    rw [cat, cat_snoc f n (k + 1), cat, List.append_assoc, show k + 1 + n = k + (n + 1) by omega]

set_option maxHeartbeats 1000000 in
set_option maxRecDepth 100000 in
theorem rows_law {a : Option Addr} {len cap : Nat} {f : Nat → ByteArray} (w : World) (hG : Gl w) (hS : Strs w a len f) (hlen : len ≤ 9223372036854775807) :
    Calls Tryd.prog 8 #[.slice a len cap] w fun e w' => e = .returned (.bool true) ∧ Keep (fun _ => False) w w' := by
  have ha := awake_any w hG
  by_cases h30 : 30 < len
  · have i1 : (30 : Int) < len := by omega
    clear hS hG hlen
    go_enter Tryd.func8, Tryd.ntmps8
    go_wp2_with fail
    refine ha.mono ?_
    rintro e w0 ⟨rfl, k0⟩
    clear ha
    go_wp2_with fail
    go_ret
    exact ⟨rfl, k0⟩
  have i1 : ¬ (30 : Int) < len := by omega
  have HG : Hid (Gl w) := hG
  have HS : Hid (Strs w a len f) := hS
  have HL : Hid (len ≤ 30) := by show len ≤ 30; omega
  clear h30 hlen hG hS
  go_enter Tryd.func8, Tryd.ntmps8
  go_wp2_with fail
  refine ha.mono ?_
  rintro e w0 ⟨rfl, k0⟩
  clear ha
  go_wp2_with fail
  have K0 : Hid (Keep (fun _ => False) w w0) := k0
  clear k0
  go_loopw [3, 4] (fun x i wr => ∃ (k : Nat) (S : ByteArray), x = .string S ∧ i = .int .i64 (k : Nat) ∧ k ≤ len ∧ bs S = cat f 0 k ∧ S.size ≤ 4002 * k ∧ Keep (fun _ => False) w wr ∧ ∀ j, j < k → (f j).size ≤ 1000) (fun _ i _ => len - (intOf i).toNat)
  case atStart => exact ⟨0, ⟨#[]⟩, rfl, rfl, by omega, by rfl, by decide, K0.out, fun j hj => absurd hj (by omega)⟩
  case round =>
    obtain ⟨k, S, rfl, rfl, hk, hb, hsz, hkp, hj⟩ := hrel
    by_cases hlt : k < len
    · rcases (HS.out.keep hkp).2 with h0 | ⟨b, o, rfl, hc⟩
      · omega
      have hcell := hc k hlt
      have hfs := HS.out.1 k hlt
      have j1 : (k : Int) < len := by omega
      have KP : Hid (Keep (fun _ => False) w wr) := hkp
      have HJ : Hid (∀ j, j < k → (f j).size ≤ 1000) := hj
      have HB : Hid (bs S = cat f 0 k) := hb
      have HK : Hid (k < len ∧ S.size ≤ 4002 * k) := ⟨hlt, hsz⟩
      have HC : Hid (∀ W, Keep (fun _ => False) wr W → W.cell? ⟨b, o + k, none⟩ = some (.string (f k))) := fun W hW => by
        rw [← hcell]
        exact World.cell?_of_block (w := wr) (a := ⟨b, o + k, none⟩) (hW.block b (World.block_lt_of_cell? wr _ hcell) (fun e => e))
      clear hkp hj hb hsz hc hk hlt
      by_cases h1000 : 1000 < (f k).size
      · have j2 : (1000 : Int) < (f k).size := by omega
        clear h1000
        go_wp2_with fail
        go_ret
        exact ⟨rfl, KP.out⟩
      · have j2 : ¬ (1000 : Int) < (f k).size := by omega
        have HF : Hid ((f k).size ≤ 1000) := by show (f k).size ≤ 1000; omega
        have hq := fun W => quote_any (f k) (by omega) W
        have hr1 := fun W => pruns_any (f k) (by omega) W
        have hbq := bs_str (told_byte (bs (f k)))
        have hqs : (str (told (bs (f k)))).size ≤ 4002 := by
          have := body_len (bs (f k))
          rw [bs_len] at this
          rw [str_size, told_len]; omega
        have hr2 := fun W => pruns_any (str (told (bs (f k)))) (by omega) W
        rw [hbq] at hr2
        obtain ⟨t1, t2, _⟩ := told_runes (bs (f k))
        have t4 : (runes (bs (f k))).1 + (runes (bs (f k))).2 ≤ (f k).size := by rw [← bs_len]; exact runes_le _
        rw [t1] at hr2
        have hcat : cat f 0 (k + 1) = cat f 0 k ++ told (bs (f k)) := by rw [cat_snoc, Nat.zero_add]
        have HQ : Hid (bs (S ++ str (told (bs (f k)))) = cat f 0 (k + 1)) := by show _ = _; rw [bs_append, HB.out, hbq, hcat]
        have HZ : Hid ((S ++ str (told (bs (f k)))).size ≤ 4002 * (k + 1)) := by show _ ≤ _; have := HK.out; rw [ByteArray.size_append]; omega
        have hcc : ¬ (9223372036854775807 < S.size + (str (told (bs (f k)))).size) := by have := HK.out; have := HL.out; omega
        generalize str (told (bs (f k))) = q at *
        generalize (runes (bs (f k))).1 = x at *
        generalize (runes (bs (f k))).2 = y at *
        generalize (runes (told (bs (f k)))).1 = c at *
        have u1 : IntKind.i64.wrap ((x : Int) + y) = (x : Int) + y := by rw [IntKind.wrap_i64]; omega
        have u2 : IntKind.i64.wrap ((x : Int) + y + 2) = (x : Int) + y + 2 := by rw [IntKind.wrap_i64]; omega
        have u3 : ¬ (c : Int) < (x : Int) + y + 2 := by omega
        have u4 : IntKind.i64.wrap ((k : Int) + 1) = (k : Int) + 1 := by have := HK.out; have := HL.out; rw [IntKind.wrap_i64]; omega
        clear h1000 t1 t2 t4 hcat hbq hqs hfs
        go_wp2_with fail
        refine (hq _).mono ?_
        rintro e w1 ⟨rfl, k1⟩
        have c1 := HC.out w1 k1
        go_wp2_with fail
        refine (hr1 _).mono ?_
        rintro e w2 ⟨rfl, k2⟩
        go_wp2_with fail
        refine (hr2 _).mono ?_
        rintro e w3 ⟨rfl, k3⟩
        go_wp2_with fail
        refine ⟨⟨k + 1, S ++ q, rfl, by go_num, by have := HK.out; omega, HQ.out, HZ.out, KP.out.trans (k1.trans (k2.trans k3)), fun j hj => ?_⟩, by have := HK.out; simp [intOf]; omega⟩
        by_cases e : j = k
        · rw [e]; exact HF.out
        · exact HJ.out j (by omega)
    · obtain rfl : k = len := by omega
      have j1 : ¬ (k : Int) < k := by omega
      have KP : Hid (Keep (fun _ => False) w wr) := hkp
      have HJ : Hid (∀ j, j < k → (f j).size ≤ 1000) := hj
      have HB : Hid (bs S = cat f 0 (k - 0)) := hb
      have HZ : Hid (S.size ≤ 4002 * k) := hsz
      clear hkp hj hb hsz hk hlt
      go_wp2_with fail
      clear j1
      go_loopw [3, 10] (fun x i w2 => ∃ (n : Nat) (T : ByteArray), x = .string T ∧ i = .int .i64 (n : Nat) ∧ n ≤ k ∧ bs T = cat f n (k - n) ∧ T.size ≤ 4002 * k ∧ Keep (fun _ => False) w w2) (fun _ i _ => k - (intOf i).toNat)
      case atStart => exact ⟨0, S, rfl, rfl, by omega, HB.out, HZ.out, KP.out⟩
      case round =>
        clear HB HZ KP
        obtain ⟨n, T, rfl, rfl, hn, hb, hsz, hkp⟩ := hrel
        by_cases hlt : n < k
        · rcases (HS.out.keep hkp).2 with h0 | ⟨b, o, rfl, hc⟩
          · omega
          have hcell := hc n hlt
          have j1 : (n : Int) < k := by omega
          have hcat : cat f n (k - n) = told (bs (f n)) ++ cat f (n + 1) (k - (n + 1)) := by
            obtain ⟨m, hm⟩ : ∃ m, k - n = m + 1 := ⟨k - n - 1, by omega⟩
            rw [hm, cat, show k - (n + 1) = m by omega]
          rw [hcat] at hb
          have hr := read_yes (t := T) (x := bs (f n)) (n := (told (bs (f n))).length) (by rw [hb]; exact read_told (bs_byte _) _) (str_bs (f n)) (by have := HL.out; omega)
          have hnl : (told (bs (f n))).length ≤ T.size := by
            have := congrArg List.length hb
            rw [bs_len, List.length_append] at this
            omega
          have HD : Hid (bs (T.extract (told (bs (f n))).length T.size) = cat f (n + 1) (k - (n + 1))) := by show _ = _; rw [bs_drop, hb, List.drop_left]
          have HZ : Hid (T.size ≤ 4002 * k) := hsz
          have HN : Hid (n < k) := hlt
          have KP : Hid (Keep (fun _ => False) w wr) := hkp
          generalize (told (bs (f n))).length = q at *
          have j2 : (q : Int) ≤ T.size := by omega
          have j3 : IntKind.i64.wrap ((n : Int) + 1) = (n : Int) + 1 := by have := HL.out; rw [IntKind.wrap_i64]; omega
          have hr' := hr wr (HG.out.keep hkp)
          have HC : Hid (∀ W, Keep (fun _ => False) wr W → W.cell? ⟨b, o + n, none⟩ = some (.string (f n))) := fun W hW => by
            rw [← hcell]
            exact World.cell?_of_block (w := wr) (a := ⟨b, o + n, none⟩) (hW.block b (World.block_lt_of_cell? wr _ hcell) (fun e => e))
          clear hr hcat hb hsz hkp hn hc hnl hlt hcell
          go_wp2_with fail
          refine hr'.mono ?_
          rintro e w3 ⟨rfl, k3⟩
          have c3 := HC.out w3 k3
          clear hr'
          go_wp2_with fail
          refine ⟨⟨n + 1, T.extract q T.size, rfl, by go_num, HN.out, HD.out, ?_, KP.out.trans k3⟩, ?_⟩
          · have := HZ.out; simp; omega
          · have := HN.out; simp [intOf]; omega
        · obtain rfl : n = k := by omega
          have j1 : ¬ (n : Int) < n := by omega
          rw [Nat.sub_self, cat] at hb
          have h0 : T.size = 0 := by rw [← bs_len, hb]; rfl
          have hT : T = ⟨#[]⟩ := by
            apply ByteArray.ext
            exact Array.eq_empty_of_size_eq_zero h0
          subst hT
          clear hb hsz h0 hlt hn
          go_wp2_with fail
          go_ret
          exact ⟨rfl, hkp⟩
end Tg
end Go.Proofs.YtnfbcaanedkodaaDoor
