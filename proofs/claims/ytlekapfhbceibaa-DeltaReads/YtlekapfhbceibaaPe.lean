/-
  The program's own reader: numbers read one behind the other.
-/
import Derived.Test.YtlekapfhbceibaaPd
namespace Go.Proofs.Ytlekapfhbceibaa
open Go.ChangeShapes Go.WideShapes Go.ChangeAt Go.RowKit
namespace Tg
open Vi
/-- Where a slice begins that is cut at n. -/
def cutA (a : Option Addr) (cap n : Nat) : Option Addr := if cap = n then a else a.map (·.add n)
theorem cutA_block {a : Option Addr} {cap n B : Nat} (h : ∀ x, a = some x → x.block < B) : ∀ x, cutA a cap n = some x → x.block < B := by
  intro x e
  unfold cutA at e
  split at e
  · exact h x e
  · cases a with
    | none => cases e
    | some y =>
      simp only [Option.map_some, Option.some.injEq] at e
      have hy := h y rfl
      rw [← e]
      unfold Addr.add
      split <;> exact hy
theorem Row.cut {w : World} {a : Option Addr} {len cap n : Nat} {l : List Int} (h : Row w a len cap l) (hn : n ≤ len) : Row w (cutA a cap n) (len - n) (cap - n) (l.drop n) := by
  obtain ⟨h1, h2, h3, h4, h5⟩ := h
  refine ⟨by simp [h1], by omega, by omega, fun x hx => h4 x (List.mem_of_mem_drop hx), ?_⟩
  by_cases hl : len - n = 0
  · exact Or.inl hl
  · right
    obtain ⟨b', o', rfl, hc⟩ := h5.resolve_left (by omega)
    refine ⟨b', o' + n, ?_, fun i hi => ?_⟩
    · unfold cutA
      rw [if_neg (by omega), Option.map_some, Addr.add_lit]
    · rw [Nat.add_assoc, hc (n + i) (by omega)]
      simp [List.getD, List.getElem?_drop]
theorem cut_run (w : World) (a : Option Addr) {len cap n : Nat} (hn : n ≤ len) : (Instr.sliceAt 23 (.slice a len cap) (some (.int .i64 (n : Int))) none none).run Try.prog w = .ok (.slice (cutA a cap n) (len - n) (cap - n)) w := by
  obtain ⟨i, hi, hz0, hz1, hz2⟩ := info_parts info5
  simp [Instr.sliceAt, Instr.slice, Instr.sliceBounds, Instr.sliceBound, run_underlying Try.underlying23, sizeOf, typeInfo, hi, hz1, asIntOf, hn, cutA]
/-- A reader of one's own: stuck or not, what is left; the bytes are older than w0. -/
def Rdr (w0 w : World) (br : Nat) (s : Bool) (l : List Int) : Prop := ∃ a len cap, Blk w br 2 (fun k => if k = 0 then .slice a len cap else .bool s) ∧ Row w a len cap l ∧ (len = 0 ∨ ∀ x, a = some x → x.block < w0.heap.size) ∧ w0.heap.size ≤ br
theorem Row.old {S : Nat → Prop} {B : Nat} {w w' : World} {a : Option Addr} {len cap : Nat} {l : List Int} (hR : Row w a len cap l) (hb : len = 0 ∨ ∀ x, a = some x → x.block < B) (k : Keep S w w') (hr : ∀ b, S b → B ≤ b) : Row w' a len cap l := by
  obtain ⟨h1, h2, h3, h4, h5⟩ := hR
  refine ⟨h1, h2, h3, h4, ?_⟩
  by_cases h0 : len = 0
  · exact Or.inl h0
  · obtain ⟨b, o, rfl, hc⟩ := h5.resolve_left h0
    refine Or.inr ⟨b, o, rfl, fun i hi => ?_⟩
    have hc1 := hc i hi
    have hlt := World.block_lt_of_cell? w _ hc1
    have hbb : b < B := hb.resolve_left h0 _ rfl
    rw [← hc1]
    exact World.cell?_of_block (w := w) (a := ⟨b, o + i, none⟩) (k.block b hlt (fun e => by have := hr b e; omega))
theorem Rdr.keep {S : Nat → Prop} {w0 w w' : World} {br : Nat} {s : Bool} {l : List Int} (h : Rdr w0 w br s l) (k : Keep S w w') (hs : ¬ S br) (hr : ∀ b, S b → w0.heap.size ≤ b) : Rdr w0 w' br s l := by
  obtain ⟨a, len, cap, hb, hR, hn, hn2⟩ := h
  exact ⟨a, len, cap, hb.keep k hs, hR.old hn k hr, hn, hn2⟩
theorem Rdr.lt {w0 w : World} {br : Nat} {s : Bool} {l : List Int} (h : Rdr w0 w br s l) : br < w.heap.size := by
  obtain ⟨a, len, cap, hb, -⟩ := h
  exact hb.lt (by omega)
theorem Rdr.bys {w0 w : World} {br : Nat} {s : Bool} {l : List Int} (h : Rdr w0 w br s l) : Bys l := by
  obtain ⟨a, len, cap, hb, hR, -⟩ := h
  exact hR.2.2.2.1
theorem Rdr.c1 {w0 w : World} {br : Nat} {s : Bool} {l : List Int} (h : Rdr w0 w br s l) : w.cell? ⟨br, 1, none⟩ = some (.bool s) := by
  obtain ⟨a, len, cap, hb, -⟩ := h
  exact (hb 1 (by omega)).1
set_option maxHeartbeats 600000 in
/-- pass. -/
theorem pass_any {w0 w : World} {br len cap n : Nat} {a : Option Addr} {s : Bool} {l : List Int} (hB : Blk w br 2 (fun k => if k = 0 then .slice a len cap else .bool s)) (hR : Row w a len cap l) (hne : len = 0 ∨ ∀ x, a = some x → x.block < w0.heap.size) (hbr : w0.heap.size ≤ br) (hn : n ≤ len) (v c : Int) :
    Calls Try.prog 55 #[.pointer (some ⟨br, 0, none⟩), .int .i64 v, .int .i64 (n : Int), .int .i64 c] w fun e w' => e = .returned (.int .i64 v) ∧ Rdr w0 w' br (s || c != 0) (l.drop n) ∧ Keep (fun b => b = br) w w' := by
  have h0 := (hB 0 (by omega)).1
  have h1 := (hB 1 (by omega)).1
  simp only [↓reduceIte] at h0
  simp only [Nat.one_ne_zero, ↓reduceIte] at h1
  have hsl := fun w' => cut_run w' a (cap := cap) hn
  have hcut := hR.cut hn
  have hne2 : len - n = 0 ∨ ∀ x, cutA a cap n = some x → x.block < w0.heap.size := by
    rcases hne with h | h
    · left; omega
    · exact Or.inr (cutA_block h)
  have hf0 := (hB 0 (by omega)).2
  have hf1 := (hB 1 (by omega)).2
  have B1 := hB.set 0 (.slice (cutA a cap n) (len - n) (cap - n))
  have K1 : Keep (fun b => b = br) w (w.setCell ⟨br, 0, none⟩ (.slice (cutA a cap n) (len - n) (cap - n))) := (Keep.refl (fun b => b = br) w).setCell (Or.inl rfl) _
  have fin : ∀ w' s', Blk w' br 2 (fun k => if k = 0 then .slice (cutA a cap n) (len - n) (cap - n) else .bool s') → Keep (fun b => b = br) w w' → Rdr w0 w' br s' (l.drop n) ∧ Keep (fun b => b = br) w w' := fun w' s' b k =>
    ⟨⟨_, _, _, b, hcut.old hne2 k (fun b e => by omega), hne2, hbr⟩, k⟩
  by_cases hc : c = 0
  · have hc' : (c != 0) = false := by simp [hc]
    have F := fin _ s (B1.congr (fun i hi => by by_cases e : i = 0 <;> simp [e])) K1
    rw [hc', Bool.or_false]
    clear fin hc B1 K1 hcut hne2 hR hB
    go_enter Try.func55, Try.ntmps55
    go_wp2_with fail
    go_ret
    exact ⟨rfl, F⟩
  · have hc' : (c != 0) = true := by simp [hc]
    have F := fin _ true ((B1.set 1 (.bool true)).congr (fun i hi => by rcases (by omega : i = 0 ∨ i = 1) with rfl | rfl <;> rfl)) (K1.setCell (Or.inl rfl) (.bool true))
    rw [hc', Bool.or_true]
    clear fin hc B1 K1 hcut hne2 hR hB
    go_enter Try.func55, Try.ntmps55
    go_wp2_with fail
    go_ret
    exact ⟨rfl, F⟩
/-- How many bytes the next number has. -/
def gN (l : List Int) : Nat := (gn l).toNat
theorem gN_some {l : List Int} {v : Int} {n : Nat} (h : vg 0 0 l = some (v, n)) : gN l = n := by unfold gN; rw [(gv_some h).2.1]; rfl
theorem gn_le {l : List Int} (hb : Bys l) : gN l ≤ l.length ∧ gn l = (gN l : Int) := by
  unfold gN
  cases h : vg 0 0 l with
  | none => rw [(gv_none h).2.1]; exact ⟨by simp, rfl⟩
  | some p =>
    obtain ⟨v, n⟩ := p
    rw [(gv_some h).2.1]
    obtain ⟨-, -, h3, h4⟩ := put_get hb h
    exact ⟨by omega, rfl⟩
theorem ge_some {l : List Int} : (ge l != 0) = !(vg 0 0 l).isSome := by
  cases h : vg 0 0 l with
  | none => rw [(gv_none h).2.2]; rfl
  | some p => rw [(gv_some h).2.2]; rfl
/-- What number answers. -/
def nuI (l : List Int) : Int := IntKind.i64.wrap (gv l)
/-- number. -/
theorem num_any {w0 w : World} {br : Nat} {s : Bool} {l : List Int} (h : Rdr w0 w br s l) :
    Calls Try.prog 44 #[.pointer (some ⟨br, 0, none⟩)] w fun e w' => e = .returned (.int .i64 (nuI l)) ∧ Rdr w0 w' br (s || !(vg 0 0 l).isSome) (l.drop (gN l)) ∧ Keep (fun b => b = br) w w' := by
  obtain ⟨a, len, cap, hB, hR, hn, hbr⟩ := h
  obtain ⟨hl, hgn⟩ := gn_le hR.2.2.2.1
  rw [hR.1] at hl
  have hg := get_any hR
  rw [hgn] at hg
  have hp := pass_any hB hR hn hbr hl (nuI l) (ge l)
  rw [ge_some] at hp
  have h0 := (hB 0 (by omega)).1
  simp only [↓reduceIte] at h0
  have e1 : IntKind.i64.wrap (gv l) = nuI l := rfl
  generalize gv l = V at hg e1
  generalize nuI l = U at hp e1 ⊢
  generalize gN l = G at hg hp hl ⊢
  clear hgn
  generalize ge l = E at hg hp
  go_enter Try.func44, Try.ntmps44
  go_wp2_with fail
  refine hg.mono ?_
  rintro e w1 ⟨rfl, e2⟩
  subst e2
  go_wp2_with fail
  refine hp.mono ?_
  rintro e w2 ⟨rfl, F⟩
  go_wp2_with fail
  go_ret
  exact ⟨rfl, F⟩
/-- signed. -/
theorem sig_any {w0 w : World} {br : Nat} {s : Bool} {l : List Int} (h : Rdr w0 w br s l) :
    Calls Try.prog 43 #[.pointer (some ⟨br, 0, none⟩)] w fun e w' => e = .returned (.int .i64 (gi l)) ∧ Rdr w0 w' br (s || !(vg 0 0 l).isSome) (l.drop (gN l)) ∧ Keep (fun b => b = br) w w' := by
  obtain ⟨a, len, cap, hB, hR, hn, hbr⟩ := h
  obtain ⟨hl, hgn⟩ := gn_le hR.2.2.2.1
  rw [hR.1] at hl
  have hg := getint_any hR
  rw [hgn] at hg
  have hp := pass_any hB hR hn hbr hl (gi l) (ge l)
  rw [ge_some] at hp
  have h0 := (hB 0 (by omega)).1
  simp only [↓reduceIte] at h0
  generalize gi l = V at hg hp ⊢
  generalize gN l = G at hg hp hl ⊢
  clear hgn
  generalize ge l = E at hg hp
  go_enter Try.func43, Try.ntmps43
  go_wp2_with fail
  refine hg.mono ?_
  rintro e w1 ⟨rfl, e2⟩
  subst e2
  go_wp2_with fail
  refine hp.mono ?_
  rintro e w2 ⟨rfl, F⟩
  go_wp2_with fail
  go_ret
  exact ⟨rfl, F⟩
/-- count: whatever it answers, it is no more than 512; stuck, if it is nothing that may be. -/
theorem count_any {w0 w : World} {br : Nat} {l : List Int} (h : Rdr w0 w br false l) :
    Calls Try.prog 42 #[.pointer (some ⟨br, 0, none⟩)] w fun e w' => ∃ (k : Nat) (s : Bool), e = .returned (.int .i64 (k : Int)) ∧ k ≤ 512 ∧ Rdr w0 w' br s (l.drop (gN l)) ∧ Keep (fun b => b = br) w w' ∧ (s = true → k = 0) ∧ Hid (∀ (n : Int) (r : List Int), 0 ≤ n → n ≤ 512 → l = vb n ++ r → s = false ∧ (k : Int) = n ∧ l.drop (gN l) = r) := by
  have hn := num_any h
  rw [Bool.false_or] at hn
  have hw := within_any (nuI l) 0 512
  have key : ∀ (n : Int) (r : List Int), 0 ≤ n → n ≤ 512 → l = vb n ++ r → vg 0 0 l = some (n, (vb n).length) := fun n r h0 h1 e => by rw [e]; exact get_put ⟨h0, by omega⟩ r
  have key2 : ∀ (n : Int) (r : List Int), 0 ≤ n → n ≤ 512 → l = vb n ++ r → (vg 0 0 l).isSome = true ∧ nuI l = n ∧ l.drop (gN l) = r := fun n r h0 h1 e => by
    have hk := key n r h0 h1 e
    have hs := gv_some hk
    refine ⟨by rw [hk]; rfl, ?_, ?_⟩
    · unfold nuI; rw [hs.1]; exact wrapI (by omega) (by omega)
    · rw [gN_some hk]
      conv => lhs; rw [e]
      exact List.drop_left
  clear key
  have hnone : (vg 0 0 l).isSome = false → nuI l = 0 := fun e => by
    unfold nuI
    rw [(gv_none (Option.isSome_eq_false_iff.1 e |> Option.isNone_iff_eq_none.1)).1]
    rfl
  by_cases hin : 0 ≤ nuI l ∧ nuI l ≤ 512
  · rw [wiB_iff.2 hin] at hw
    obtain ⟨k, hk⟩ := Int.eq_ofNat_of_zero_le hin.1
    rw [hk] at hn hw
    have hk5 : k ≤ 512 := by omega
    have fin : ∀ w', Rdr w0 w' br (!(vg 0 0 l).isSome) (l.drop (gN l)) ∧ Keep (fun b => b = br) w w' → k ≤ 512 ∧ Rdr w0 w' br (!(vg 0 0 l).isSome) (l.drop (gN l)) ∧ Keep (fun b => b = br) w w' ∧ ((!(vg 0 0 l).isSome) = true → k = 0) ∧ Hid (∀ (n : Int) (r : List Int), 0 ≤ n → n ≤ 512 → l = vb n ++ r → (!(vg 0 0 l).isSome) = false ∧ (k : Int) = n ∧ l.drop (gN l) = r) := fun w' F => by
      refine ⟨hk5, F.1, F.2, fun e => ?_, fun n r h0 h1 e => ?_⟩
      · have := hnone (by simpa using e)
        omega
      · obtain ⟨a1, a2, a3⟩ := key2 n r h0 h1 e
        exact ⟨by rw [a1]; rfl, by rw [← a2, hk], a3⟩
    clear key2 hnone hin hk hk5
    generalize (!(vg 0 0 l).isSome) = s at fin hn
    go_enter Try.func42, Try.ntmps42
    go_wp2_with fail
    refine hn.mono ?_
    rintro e w1 ⟨rfl, F⟩
    go_wp2_with fail
    refine (hw _).mono ?_
    rintro e w2 ⟨rfl, e2⟩
    subst e2
    go_wp2_with fail
    go_ret
    exact ⟨k, s, rfl, fin _ F⟩
  · have hwf : wiB (nuI l) 0 512 = false := Bool.eq_false_iff.2 (fun e => hin (wiB_iff.1 e))
    rw [hwf] at hw
    have fin : ∀ w', (∃ s, Rdr w0 w' br s (l.drop (gN l))) ∧ Keep (fun b => b = br) w w' → ∃ w2, w2 = w'.setCell ⟨br, 1, none⟩ (.bool true) ∧ Rdr w0 w2 br true (l.drop (gN l)) ∧ Keep (fun b => b = br) w w2 := fun w' F => by
      obtain ⟨⟨s, a, len, cap, hB, hR, hn, hbr⟩, K⟩ := F
      refine ⟨_, rfl, ⟨a, len, cap, (hB.set 1 (.bool true)).congr (fun i hi => by rcases (by omega : i = 0 ∨ i = 1) with rfl | rfl <;> rfl), hR.old hn ((Keep.refl (fun b => b = br) w').setCell (p := ⟨br, 1, none⟩) (Or.inl rfl) _) (fun b e => by omega), hn, hbr⟩, K.setCell (Or.inl rfl) _⟩
    have key3 : Hid (∀ (n : Int) (r : List Int), 0 ≤ n → n ≤ 512 → l = vb n ++ r → true = false ∧ ((0 : Nat) : Int) = n ∧ l.drop (gN l) = r) := fun n r h0 h1 e => by
      obtain ⟨a1, a2, a3⟩ := key2 n r h0 h1 e
      omega
    clear key2 hnone hin hwf
    generalize (!(vg 0 0 l).isSome) = s at hn
    generalize nuI l = U at hn hw
    go_enter Try.func42, Try.ntmps42
    go_wp2_with fail
    refine hn.mono ?_
    rintro e w1 ⟨rfl, F⟩
    have q1 := F.1.c1
    have q2 : w1.frozen? ⟨br, 1, none⟩ = false := by
      obtain ⟨a, len, cap, hB, -⟩ := F.1
      exact (hB 1 (by omega)).2
    obtain ⟨w3, e3, R3, K3⟩ := fin w1 ⟨⟨s, F.1⟩, F.2⟩
    clear fin F
    go_wp2_with fail
    refine (hw _).mono ?_
    rintro e w2 ⟨rfl, e2⟩
    subst e2
    go_wp2_with fail
    go_ret
    rw [← e3]
    exact ⟨0, true, rfl, by omega, R3, K3, fun _ => rfl, key3⟩
end Tg
end Go.Proofs.Ytlekapfhbceibaa
