/-
  The landed array: Copy, Differs; all its calls.
-/
import Derived.Test.YtikepmdlpalpfaaNb
namespace Go.Proofs.Ytikepmdlpalpfaa
open Go.ChangeShapes Go.WideShapes Go.ChangeAt Go.RowKit
namespace Tg
set_option maxRecDepth 100000 in
theorem clone_any {w : World} {a : Addr} {len cap : Nat} {l : List Int} (h : Row w (some a) len cap l) (hl : len ≤ 16384) : Calls Try.prog 20 #[.slice (some a) len cap] w fun e w' => ∃ g c, e = .returned (.slice (some ⟨g, 0, none⟩) len c) ∧ Row w' (some ⟨g, 0, none⟩) len c l ∧ Free w' g c ∧ w.heap.size ≤ g ∧ Keep (fun _ => False) w w' := by
  have hk0 : Keep (fun _ => False) w (w.alloc (.cells #[] 5)) := (Keep.refl _ _).alloc _
  have hr0 : Row (w.alloc (.cells #[] 5)) (some ⟨w.heap.size, 0, none⟩) 0 0 [] := ⟨rfl, by omega, by omega, fun n hn => by simp at hn, Or.inl rfl⟩
  have hf0 : Free (w.alloc (.cells #[] 5)) w.heap.size 0 := fun i hi => by omega
  obtain ⟨g', cap', w2, hrun, hR, hK, hg, hF⟩ := append_rows _ _ _ _ _ hr0 hf0 _ _ _ _ (h.keep hk0 (fun _ _ _ e => e)) (by omega)
  rw [Nat.zero_add] at hrun hR
  rw [List.nil_append] at hR
  have hgs : w.heap.size ≤ g' := by
    rcases hg with e | e
    · omega
    · have := hk0.size; omega
  have hK2 : Keep (fun _ => False) w w2 := hk0.next hK (fun x hx e => by omega)
  have he : ∀ w : World, (binOp .eql 45 (.slice (some a) len cap) (.slice none 0 0)).run Try.prog w = .ok (.bool false) w := fun _ => rfl
  clear hr0 hf0 hK hg hk0
  go_enter Try.func20, Try.ntmps20
  go_wp2_with (at_builtin; refine wpList_append_run rfl (.tmp 5) (.tmp 6) 45 rfl (by rfl) (by rfl) hrun ?_)
  go_ret
  exact ⟨g', cap', rfl, hR, hF, hgs, hK2⟩
set_option maxRecDepth 100000 in
theorem copy_any {w : World} {p g cap N : Nat} {l : List Int} (h : Arr w p g cap l) (hl : l.length = N * 32) (hN : N ≤ 512) : Calls Try.prog 12 #[Ptr p] w fun e w' => ∃ (q : Nat) (T : Nat → Prop), e = .returned (Ptr q) ∧ MArr T w' q l ∧ (∀ k, T k → w.heap.size ≤ k) ∧ Keep (fun _ => False) w w' := by
  have hc := h.cell
  have hk := clone_any h.all (by omega)
  have hp := h.pos
  have hm : Hid (0 < l.length) := hp
  generalize l.length = L at *
  clear h hl hN hp
  go_enter Try.func12, Try.ntmps12
  go_wp2_with fail
  refine hk.mono ?_
  rintro e w1 ⟨g1, c1, rfl, hR, hF, hg1, hK⟩
  go_wp2_with fail
  go_ret
  have hs := hK.size
  exact ⟨_, fun k => k = w1.heap.size ∨ k = g1, rfl, ⟨_, _, arr_boxed hR hF hm, fun k => Iff.rfl⟩, fun k hk => by omega, hK.alloc _⟩
set_option maxRecDepth 100000 in
theorem equal_any {w : World} {a b : Option Addr} {la ca lb cb : Nat} {l m : List Int} (h1 : Row w a la ca l) (h2 : Row w b lb cb m) : Calls Try.prog 24 #[.slice a la ca, .slice b lb cb] w fun e w' => e = .returned (.bool (strOfNums l == strOfNums m)) ∧ w' = w := by
  have t1 := h1.text
  have t2 := h2.text
  generalize strOfNums l = s at *
  generalize strOfNums m = t at *
  clear h1 h2
  go_enter Try.func24, Try.ntmps24
  go_wp2_with fail
  go_ret
  exact ⟨by rw [beq_toListBytes]; rfl, rfl⟩
set_option maxRecDepth 100000 in
set_option maxHeartbeats 2000000 in
theorem differs_any {w : World} {p q g1 g2 c1 c2 Na Nb : Nat} {a b : List Int} (hp : Arr w p g1 c1 a) (hq : Arr w q g2 c2 b) (ha : a.length = Na * 32) (hb : b.length = Nb * 32) (hNa : Na ≤ 512) (hNb : Nb ≤ 512) :
    Calls Try.prog 16 #[Ptr p, Ptr q] w fun e w' => ∃ a' c', e = .returned (.slice a' (difL a b).length c') ∧ Ri w w' a' c' (difL a b) := by
  have hca := fun (w' : World) (k : Keep (fun _ => False) w w') => capacity_any (hp.keep k (fun e => e) (fun e => e)) ha hNa
  have hcb := fun (w' : World) (k : Keep (fun _ => False) w w') => capacity_any (hq.keep k (fun e => e) (fun e => e)) hb hNb
  have hpa := fun (w' : World) (k : Keep (fun _ => False) w w') (i : Nat) (h : i < Na) => part_any (hp.keep k (fun e => e) (fun e => e)) ha hNa (lba := i) (n := 1) (okR_iff.2 (by omega))
  have hpb := fun (w' : World) (k : Keep (fun _ => False) w w') (i : Nat) (h : i < Nb) => part_any (hq.keep k (fun e => e) (fun e => e)) hb hNb (lba := i) (n := 1) (okR_iff.2 (by omega))
  have heq := fun (w' : World) (k : Keep (fun _ => False) w w') (i : Nat) (h1 : i < Na) (h2 : i < Nb) => equal_any ((hp.keep k (fun e => e) (fun e => e)).row i 1 (by omega)) ((hq.keep k (fun e => e) (fun e => e)).row i 1 (by omega))
  have hD : Hid (difL a b = difK a b (max Na Nb)) := by show _ = _; unfold difL; rw [ha, hb]; congr 1; omega
  have hstep : Hid (∀ k, difK a b (k + 1) = difK a b k ++ (if k < Na ∧ k < Nb ∧ (strOfNums (rdL a k 1) == strOfNums (rdL b k 1)) = true then [] else [(k : Int)])) := fun k => by
    rw [difK, ha, hb]
    congr 1
    have e : (strOfNums (rdL a k 1) == strOfNums (rdL b k 1)) = true ↔ rdL a k 1 = rdL b k 1 := by
      rw [Go.MapKept.bytes_beq]
      exact ⟨fun h => str_inj (rdL_b8 (a := k) (n := 1) hp.b8) (rdL_b8 (a := k) (n := 1) hq.b8) h, fun h => congrArg strOfNums h⟩
    simp only [e]
    by_cases h1 : k < Na ∧ k < Nb ∧ rdL a k 1 = rdL b k 1
    · rw [if_pos h1, if_pos ⟨by omega, by omega, h1.2.2⟩]
    · rw [if_neg h1, if_neg (fun h => h1 ⟨by omega, by omega, h.2.2⟩)]
  have hdl : Hid (∀ k, (difK a b k).length ≤ k) := difK_len a b
  generalize difL a b = D at *
  generalize hdk : difK a b = dk at *
  clear hdk ha hb hp hq
  have h0 : Hid (dk 0 = []) := by
    show dk 0 = []
    have := (show ∀ k, (dk k).length ≤ k from hdl) 0
    exact List.eq_nil_of_length_eq_zero (by omega)
  have R0 : Ri w w none 0 (dk 0) := by rw [show dk 0 = [] from h0]; exact Ri.nil w
  have e0 : Hid ((dk 0).length = 0) := by show _ = _; rw [show dk 0 = [] from h0]; rfl
  have hmn : Hid (max Na Nb ≤ 512) := by show _ ≤ _; omega
  obtain ⟨mx, hmx⟩ : ∃ mx, mx = max Na Nb := ⟨_, rfl⟩
  obtain ⟨mi, hmi⟩ : ∃ mi, mi = min Na Nb := ⟨_, rfl⟩
  go_enter Try.func16, Try.ntmps16
  go_wp2_with fail
  refine (hca _ (Keep.refl _ _)).mono ?_
  rintro e wz ⟨rfl, e1⟩
  have e1 := e1.symm
  subst e1
  go_wp2_with fail
  refine (hcb _ (Keep.refl _ _)).mono ?_
  rintro e wz ⟨rfl, e1⟩
  have e1 := e1.symm
  subst e1
  go_upto_region 3 with fail
  have hif : (if Nb < Na then (Nb : Int) else (Na : Int)) = (mi : Int) := by rw [hmi]; split <;> omega
  have hif2 : (if Na < Nb then (Nb : Int) else (Na : Int)) = (mx : Int) := by rw [hmx]; split <;> omega
  rw [hif]
  clear hif
  have hmi' : Hid (mi = min Na Nb) := hmi
  have hmx' : Hid (mx = max Na Nb) := hmx
  clear hmi hmx
  go_wp2_with fail
  refine (hca _ (Keep.refl _ _)).mono ?_
  rintro e wz ⟨rfl, e1⟩
  have e1 := e1.symm
  subst e1
  go_wp2_with fail
  refine (hcb _ (Keep.refl _ _)).mono ?_
  rintro e wz ⟨rfl, e1⟩
  have e1 := e1.symm
  subst e1
  go_wp2_with fail
  clear hif2
  go_loopw [6, 18] (fun lv iv wx => ∃ (k : Nat) (a' : Option Addr) (c' : Nat), k ≤ mx ∧ iv = .int .i64 (k : Int) ∧ lv = .slice a' (dk k).length c' ∧ Ri w wx a' c' (dk k)) (fun _ iv _ => mx - (intOf iv).toNat)
  case atStart => exact ⟨0, _, _, by omega, rfl, by rw [show (dk 0).length = 0 from e0], R0⟩
  case round =>
    clear R0 hca hcb
    obtain ⟨k, a', c', hk, rfl, rfl, R1⟩ := hrel
    have hkl := (show ∀ k, (dk k).length ≤ k from hdl) k
    have hs := (show ∀ k, _ from hstep) k
    have hmi2 : mi = min Na Nb := hmi'
    have hmx2 : mx = max Na Nb := hmx'
    have hkp : Keep (fun _ => False) w wr := R1.keep
    by_cases hlt : k < mx
    · have q2 := wrapI (x := (k : Int) + 1) (by omega) (by omega)
      have hlt2 : (k : Int) < (mx : Int) := by omega
      have hln2 : (dk k).length ≤ 100000 := by omega
      by_cases cb : k < mi
      · have gd1 : decide ((mi : Int) ≤ (k : Int)) = false := decide_eq_false (by omega)
        have gd1n : decide (mi ≤ k) = false := decide_eq_false (by omega)
        have h1 : Calls Try.prog 19 #[Ptr p, .int .i64 (k : Int), .int .i64 1] wr fun e w' => e = .returned (.slice (some ⟨g1, k * 32, none⟩) 32 (c1 - k * 32)) ∧ w' = wr := hpa wr hkp k (by omega)
        have h2 : Calls Try.prog 19 #[Ptr q, .int .i64 (k : Int), .int .i64 1] wr fun e w' => e = .returned (.slice (some ⟨g2, k * 32, none⟩) 32 (c2 - k * 32)) ∧ w' = wr := hpb wr hkp k (by omega)
        have h3 : Calls Try.prog 24 #[.slice (some ⟨g1, k * 32, none⟩) 32 (c1 - k * 32), .slice (some ⟨g2, k * 32, none⟩) 32 (c2 - k * 32)] wr fun e w' => e = .returned (.bool (strOfNums (rdL a k 1) == strOfNums (rdL b k 1))) ∧ w' = wr := heq wr hkp k (by omega) (by omega)
        generalize k * 32 = A at h1 h2 h3
        generalize c1 - A = C1 at h1 h3
        generalize c2 - A = C2 at h2 h3
        cases ce : (strOfNums (rdL a k 1) == strOfNums (rdL b k 1)) with
        | true =>
          rw [if_pos ⟨by omega, by omega, ce⟩, List.append_nil] at hs
          rw [ce] at h3
          have R2 : Hid (Ri w wr a' c' (dk (k + 1))) := by rw [hs]; exact R1
          have hln : Hid ((dk (k + 1)).length = (dk k).length) := by show _ = _; rw [hs]
          have hk1 : Hid (k + 1 ≤ mx ∧ mx ≤ 512) := ⟨hlt, by omega⟩
          clear hs hk hkl hlt hln2 hmi2 hmx2 hkp R1 hpa hpb heq ce
          generalize (dk k).length = n at hln ⊢
          go_wp2_with fail
          refine h1.mono ?_
          rintro e wz ⟨rfl, e1⟩
          have e1 := e1.symm
          subst e1
          go_wp2_with fail
          refine h2.mono ?_
          rintro e wz ⟨rfl, e1⟩
          have e1 := e1.symm
          subst e1
          go_wp2_with fail
          refine h3.mono ?_
          rintro e wz ⟨rfl, e1⟩
          have e1 := e1.symm
          subst e1
          go_wp2_with fail
          go_roundw
          case rel => exact ⟨k + 1, a', c', by have h : k + 1 ≤ mx ∧ mx ≤ 512 := hk1; omega, by go_num, by rw [show (dk (k + 1)).length = _ from hln], R2⟩
          case measure => have h : k + 1 ≤ mx ∧ mx ≤ 512 := hk1; simp [intOf]; omega
        | false =>
          rw [if_neg (fun h => by rw [ce] at h; exact absurd h.2.2 (by decide))] at hs
          rw [ce] at h3
          obtain ⟨a2, c2', w2, happ, R2, -, -⟩ := R1.app1 hln2 (k : Int)
          rw [← hs] at R2
          have hln : Hid ((dk (k + 1)).length = (dk k).length + 1) := by show _ = _; rw [hs]; simp
          have hk1 : Hid (k + 1 ≤ mx ∧ mx ≤ 512) := ⟨hlt, by omega⟩
          generalize (dk k).length = n at happ hln ⊢
          clear hs hk hkl hlt hln2 hmi2 hmx2 hkp R1 hpa hpb heq ce
          go_wp2_with fail
          refine h1.mono ?_
          rintro e wz ⟨rfl, e1⟩
          have e1 := e1.symm
          subst e1
          go_wp2_with fail
          refine h2.mono ?_
          rintro e wz ⟨rfl, e1⟩
          have e1 := e1.symm
          subst e1
          go_wp2_with fail
          refine h3.mono ?_
          rintro e wz ⟨rfl, e1⟩
          have e1 := e1.symm
          subst e1
          go_wp2_with (at_builtin; refine wpList_append_run rfl (.tmp 34) (.tmp 36) 40 rfl (by rfl) (by rfl) happ ?_)
          go_roundw
          case rel => exact ⟨k + 1, a2, c2', by have h : k + 1 ≤ mx ∧ mx ≤ 512 := hk1; omega, by go_num, by rw [show (dk (k + 1)).length = _ from hln], R2⟩
          case measure => have h : k + 1 ≤ mx ∧ mx ≤ 512 := hk1; simp [intOf]; omega
      · have gd1 : decide ((mi : Int) ≤ (k : Int)) = true := decide_eq_true (by omega)
        have gd1n : decide (mi ≤ k) = true := decide_eq_true (by omega)
        rw [if_neg (fun h => by omega)] at hs
        obtain ⟨a2, c2', w2, happ, R2, -, -⟩ := R1.app1 hln2 (k : Int)
        rw [← hs] at R2
        have hln : Hid ((dk (k + 1)).length = (dk k).length + 1) := by show _ = _; rw [hs]; simp
        have hk1 : Hid (k + 1 ≤ mx ∧ mx ≤ 512) := ⟨hlt, by omega⟩
        generalize (dk k).length = n at happ hln ⊢
        clear hs hk hkl hlt hln2 hmi2 hmx2 hkp R1 hpa hpb heq
        go_wp2_with (at_builtin; refine wpList_append_run rfl (.tmp 34) (.tmp 36) 40 rfl (by rfl) (by rfl) happ ?_)
        go_roundw
        case rel => exact ⟨k + 1, a2, c2', by have h : k + 1 ≤ mx ∧ mx ≤ 512 := hk1; omega, by go_num, by rw [show (dk (k + 1)).length = _ from hln], R2⟩
        case measure => have h : k + 1 ≤ mx ∧ mx ≤ 512 := hk1; simp [intOf]; omega
    · have b1 : ¬ (k : Int) < (mx : Int) := by omega
      obtain rfl : k = mx := by omega
      rw [← hmx2] at hD
      rw [← show D = dk k from hD] at R1 ⊢
      clear hs hkl hlt hk hmi2 hmx2 hpa hpb heq
      go_wp2_with fail
      go_ret
      exact ⟨a', c', rfl, R1⟩
theorem arr_ok : ArrOk MArr where
  keep := by
    rintro S T w w' p l ⟨g, cap, h, hs⟩ k hT
    exact ⟨g, cap, h.keep k (fun e => hT _ e ((hs _).2 (Or.inl rfl))) (fun e => hT _ e ((hs _).2 (Or.inr rfl))), hs⟩
  lt := by
    rintro S w p l ⟨g, cap, h, hs⟩ k hk
    rcases (hs k).1 hk with rfl | rfl
    · exact World.block_lt_of_cell? w _ h.cell
    · exact h.blk.lt h.pos
  new_no := fun w _ _ h => new_no w h
  new_yes := fun w _ h1 h2 => new_yes w h1 h2
  read_no := by
    rintro S w p N l lba n ⟨g, cap, h, hs⟩ hl hN i1 i2 hr
    exact (read_no h hl hN i1 i2 hr).mono (by rintro e w' ⟨rfl, rfl⟩; exact ⟨rfl, Keep.refl _ _⟩)
  read_yes := by
    rintro S w p N l lba n ⟨g, cap, h, hs⟩ hl hN hr
    exact (read_yes h hl hN hr).mono (by rintro e w' ⟨rfl, rfl⟩; exact ⟨rfl, Keep.refl _ _⟩)
  write_no := by
    rintro S w p N l lba n d hd ⟨g, cap, h, hs⟩ hl hN i1 i2 hr
    exact (write_no h hl hN i1 i2 hr d).mono (by rintro e w' ⟨rfl, rfl⟩; exact ⟨rfl, Keep.refl _ _⟩)
  write_yes := by
    rintro S w p N l lba n d hd ⟨g, cap, h, hs⟩ hl hN hr
    refine (write_yes h hl hN hr d).mono ?_
    rintro e w' ⟨rfl, hA, hk⟩
    exact ⟨rfl, S, ⟨g, cap, hA, hs⟩, hk.mono (fun k _ e => (hs k).2 (Or.inr e)), fun k e => Or.inl e⟩
  trim_no := by
    rintro S w p N l lba n ⟨g, cap, h, hs⟩ hl hN i1 i2 hr
    exact (trim_no h hl hN i1 i2 hr).mono (by rintro e w' ⟨rfl, rfl⟩; exact ⟨rfl, Keep.refl _ _⟩)
  trim_yes := by
    rintro S w p N l lba n ⟨g, cap, h, hs⟩ hl hN hr
    refine (trim_yes h hl hN hr).mono ?_
    rintro e w' ⟨rfl, hA, hk⟩
    exact ⟨rfl, S, ⟨g, cap, hA, hs⟩, hk.mono (fun k _ e => (hs k).2 (Or.inr e)), fun k e => Or.inl e⟩
  content := by
    rintro S w p N l ⟨g, cap, h, hs⟩ hl hN
    exact (content_any h).mono (by rintro e w' ⟨rfl, rfl⟩; exact ⟨rfl, Keep.refl _ _⟩)
  copy := by
    rintro S w p N l ⟨g, cap, h, hs⟩ hl hN
    exact copy_any h hl hN
  differs := by
    rintro S T w p q N R l m ⟨g, cap, h, hs⟩ ⟨g', cap', h', hs'⟩ hl hN hm hR _ _
    refine (differs_any h h' hl hm hN hR).mono ?_
    rintro e w' ⟨a', c', rfl, hR⟩
    exact ⟨a', c', rfl, hR.is, hR.keep⟩
end Tg
end Go.Proofs.Ytikepmdlpalpfaa
