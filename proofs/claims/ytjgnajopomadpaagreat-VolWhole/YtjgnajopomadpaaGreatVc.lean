/-
  A store's entry written: enter. A volume read, written; a range copied. A volume made, taken away. A volume named anew; a volume copied. A store opened. What the landed store's calls answer.
-/
import Derived.Test.YtjgnajopomadpaaGreatVb
namespace Go.Proofs.YtjgnajopomadpaaGreat
open Go.ChangeShapes Go.WideShapes Go.ChangeAt Go.RowKit
namespace Tg
open Qm Crc
set_option maxRecDepth 100000 in
theorem gcall59 (args : Array Value) (w : World) : (callFunc 59 args).run Tryz.prog w = .ok (.enter 59 args) w := enters Tryz.func59 (by kernel_rfl) (by kernel_rfl) args w
/-- A store's disk written: its sectors are other ones. -/
theorem Sv.wrote {w w' : World} {q p g cap N : Nat} {l l' : List Int} {s : Nat → Option En} (h : Sv w q p g cap N l s) (ha : Arr w' p g cap l') (hl : l'.length = N * 32) (k : Keep (fun k => k = g) w w') : Sv w' q p g cap N l' s :=
  ⟨ha, h.vst.keep k h.qg, h.qp, h.qg, hl⟩
theorem okR_nat {N a n : Nat} (hn : 1 ≤ n) (h : a + n ≤ N) : okR N a n = true := by rw [okR_iff]; omega
set_option maxRecDepth 100000 in
set_option maxHeartbeats 1000000 in
theorem enter_any {w : World} {q p g cap N : Nat} {l : List Int} {s : Nat → Option En} (h : Sv w q p g cap N l s) {j : Nat} (hj : j < 8) {x : En} (hx : x.Ok N) :
    Calls Tryz.prog 35 #[Ptr q, .int .i64 (j : Int), .string (strOfNums x.nm), .int .i64 x.f, .int .i64 x.n] w fun e w' => e = .returned (.int .i64 0) ∧ Sv w' q p g cap N (wrL l j 1 (bytesE x.nm x.f x.n)) (upd s j (some x)) ∧ Keep (fun k => k = q ∨ k = g) w w' := by
  have hN := h.vst.N9
  have hcl := clone_any (strOfNums x.nm) w (by rw [strOfNums_size]; have := hx.nm.2.2; omega)
  have hwl : (wrL l j 1 (bytesE x.nm x.f x.n)).length = N * 32 := by rw [wrL_len (by rw [h.len]; omega), h.len]
  have hwr0 : RowKit.Hid (∀ w', Arr w' p g cap l → Calls Tryz.prog 17 #[Ptr p, .int .i64 (j : Int), .int .i64 1, .string (strOfNums (bytesE x.nm x.f x.n))] w' fun e w'' => e = .returned (.int .i64 0) ∧ Arr w'' p g cap (wrL l j 1 (bytesE x.nm x.f x.n)) ∧ Keep (fun k => k = g) w' w'') := fun w' ha => by
    have := write_yes ha h.len hN.2 (lba := j) (n := 1) (okR_nat (by omega) (by omega)) (strOfNums (bytesE x.nm x.f x.n))
    rw [nums_str (bytesE_b8 hx.nm.1 _ _)] at this
    exact this
  have heb : RowKit.Hid (∀ w', Calls Tryz.prog 59 #[.agg (trA x)] w' fun e w'' => e = .returned (.string (strOfNums (bytesE x.nm x.f x.n))) ∧ Keep (fun _ => False) w' w'') := fun w' => ebytes_any hx.nm.1 hx.nm.2.2 w'
  have H0 : RowKit.Hid (Sv w q p g cap N l s) := h
  generalize wrL l j 1 (bytesE x.nm x.f x.n) = l1 at *
  generalize strOfNums (bytesE x.nm x.f x.n) = B at *
  have j0 : (0 : Int) ≤ (j : Int) := by omega
  have j8 : (j : Int) < 8 := by omega
  have hx' : RowKit.Hid (x.Ok N) := hx
  have hj' : RowKit.Hid (j < 8) := hj
  have hwl' : RowKit.Hid (l1.length = N * 32) := hwl
  have hN' : RowKit.Hid (9 ≤ N ∧ N ≤ 512) := hN
  clear h hx hj hwl hN
  go_enter Tryz.func35, Tryz.ntmps35
  go_wp2_with fail
  refine hcl.mono ?_
  rintro e w1 ⟨rfl, k1⟩
  have H1 : RowKit.Hid (Sv w1 q p g cap N l s) := H0.out.keep k1 (fun e => e) (fun e => e) (fun e => e)
  have K1 : RowKit.Hid (Keep (fun k => k = q ∨ k = g) w w1) := k1.mono (fun _ _ e => e.elim)
  clear hcl k1 H0
  go_upto_region 2 with fail
  have k2 : Keep (fun _ => False) w1 (w1.alloc (.cells #[.string (strOfNums x.nm), .int .i64 x.f, .int .i64 x.n] 53)) := (Keep.refl _ _).alloc _
  have bl : Blk (w1.alloc (.cells #[.string (strOfNums x.nm), .int .i64 x.f, .int .i64 x.n] 53)) w1.heap.size 3 (trC x) := blk_alloc w1 _ 53 3 _ (by intro k hk; rcases (by omega : k = 0 ∨ k = 1 ∨ k = 2) with rfl | rfl | rfl <;> rfl)
  have hgv : RowKit.Hid (w1.heap.size ≠ q ∧ w1.heap.size ≠ g) := ⟨by have := H1.out.vst.blk.lt (by omega); omega, by have := H1.out.arr.blk.lt H1.out.arr.pos; omega⟩
  generalize w1.alloc (.cells #[.string (strOfNums x.nm), .int .i64 x.f, .int .i64 x.n] 53) = w2 at *
  generalize w1.heap.size = gv at *
  have H2 : RowKit.Hid (Sv w2 q p g cap N l s) := H1.out.keep k2 (fun e => e) (fun e => e) (fun e => e)
  have K2 : RowKit.Hid (Keep (fun k => k = q ∨ k = g) w w2) := K1.out.trans (k2.mono (fun _ _ e => e.elim))
  have hz : RowKit.Hid (∀ w', Keep (fun k => k = g) w2 w' → w'.cell? ⟨q, 0, none⟩ = some (dk p)) := fun w' k => ((H2.out.vst.keep k H2.out.qg).blk 0 (by omega)).1
  have hbl : RowKit.Hid (∀ w', Keep (fun k => k = g) w2 w' → Blk w' gv 3 (trC x)) := fun w' k => bl.keep k hgv.out.2
  have hwr : RowKit.Hid (∀ w', Keep (fun _ => False) w2 w' → Calls Tryz.prog 17 #[Ptr p, .int .i64 (j : Int), .int .i64 1, .string B] w' fun e w'' => e = .returned (.int .i64 0) ∧ Arr w'' p g cap l1 ∧ Keep (fun k => k = g) w' w'') := fun w' k => hwr0.out w' (H2.out.arr.keep k (fun e => e) (fun e => e))
  clear k2 bl H1 K1 hwr0
  refine wp_region_noPanic ?_
  refine wp_region_held_drew (S := fun w' => Keep (fun k => k = g) w2 w') (by kernel_rfl) ((Keep.refl (fun k => k = g) _).drew) (fun hH0 => ?_)
  refine tk 0 hH0 ?_
  refine tk 1 hH0 ?_
  refine tk 2 hH0 ?_
  refine tk 3 hH0 ?_ (hy := Or.inl ⟨by rfl, by intro w' hSw; have z1 := hz.out w' hSw; clear hSw; go_simp; try with_reducible rfl⟩)
  refine tk 4 hH0 ?_
  refine tk 5 (v := .agg (trA x)) hH0 ?_ (hy := yields_load (by rfl) 53 (.tmp 11) rfl (by rfl) (fun w' hSw => load53 (hbl.out w' hSw)))
  refine tk 7 hH0 ?_
  refine tk 8 hH0 ?_
  refine rd 6 (fun K hK => ?_)
  refine step_call_want (vs := #[.agg (trA x)]) (R := fun v wz => v = .string B ∧ Keep (fun _ => False) w2.drew wz) (by rfl) 59 _ _ rfl (by simp [Act.eval]) gcall59 ((heb.out w2.drew).mono (by rintro e wz ⟨rfl, k⟩; exact ⟨_, rfl, rfl, k⟩)) ?_
  rintro v wz ⟨rfl, kz⟩
  have KZ : RowKit.Hid (Keep (fun k => k = g) w2 wz) := ((Keep.refl (fun k => k = g) _).drew).trans (kz.mono (fun _ _ e => e.elim))
  have KF : RowKit.Hid (Keep (fun _ => False) w2 wz) := ((Keep.refl (fun _ => False) _).drew).trans kz
  clear kz
  refine hK.out _ _ (KZ.out) (fun hH1 => ?_)
  clear hK K
  simp only [Act.put, List.setIfInBounds_toArray, List.set_cons_zero, List.set_cons_succ]
  refine rd 9 (fun K hK => ?_)
  have hA3 := hwr.out wz KF.out
  refine step_invoke_want (f := 17) (by rfl) _ "Write" _ _ rfl (r := dk p) (vs := #[.int .i64 (j : Int), .int .i64 1, .string B]) (R := fun v wy => v = .int .i64 0 ∧ Arr wy p g cap l1 ∧ Keep (fun k => k = g) wz wy) (by rfl) (by simp [Act.eval]) (invWrite p _ _ _ wz) (hA3.mono (by rintro e wy ⟨rfl, a, k⟩; exact ⟨_, rfl, rfl, a, k⟩)) ?_
  rintro v wy ⟨rfl, ay, ky⟩
  have KY : RowKit.Hid (Keep (fun k => k = g) w2 wy) := KZ.out.trans ky
  have AY : RowKit.Hid (Arr wy p g cap l1) := ay
  clear ky ay hA3
  refine hK.out _ _ (KY.out) (fun hH2 => ?_)
  clear hK K
  simp only [Act.put, List.setIfInBounds_toArray, List.set_cons_zero, List.set_cons_succ]
  refine tk 10 hH2 ?_
  refine wpAnyH_done (by kernel_rfl) ?_ _
  refine NoPanic.normal ?_
  have H3 : RowKit.Hid (Sv wy q p g cap N l1 s) := H2.out.wrote AY.out hwl'.out KY.out
  have K3 : RowKit.Hid (Keep (fun k => k = q ∨ k = g) w wy) := K2.out.trans (KY.out.mono (fun _ _ e => Or.inr e))
  have hbl3 : RowKit.Hid (∀ w', Keep (fun k => k = q) wy w' → Blk w' gv 3 (trC x)) := fun w' k => (hbl.out wy KY.out).keep k hgv.out.1
  have hput : RowKit.Hid (∃ wp, (Instr.storeAt 53 (.pointer (some ⟨q, 2 + j * 3, none⟩)) (.agg (trA x))).run Tryz.prog wy.drew = .ok () wp ∧ Blk wp q 26 (stC p N (upd s j (some x))) ∧ Keep (fun k => k = q) wy.drew wp) := stC_put (H3.out.vst.blk.keep ((Keep.refl (fun _ => False) _).drew) (fun e => e)) hj'.out (some x)
  have hok : RowKit.Hid (∀ i e, i < 8 → upd s j (some x) i = some e → e.Ok N) := by
    intro i e hi he
    unfold upd at he
    split at he
    · injection he with he
      subst he
      exact hx'.out
    · exact H3.out.vst.ok i e hi he
  clear hz hbl hwr H2 K2 KZ KF KY AY hH0 hH1 hH2 heb
  generalize wy = w3 at *
  go_upto_region 5 with fail
  refine wp_region_noPanic ?_
  refine wp_region_held_drew (S := fun w' => Keep (fun k => k = q) w3 w') (by kernel_rfl) ((Keep.refl (fun k => k = q) _).drew) (fun hH0 => ?_)
  refine tk 0 hH0 ?_
  refine tk 1 hH0 ?_
  refine tk 2 (v := .agg (trA x)) hH0 ?_ (hy := yields_load (by rfl) 53 (.tmp 11) rfl (by rfl) (fun w' hSw => load53 (hbl3.out w' hSw)))
  refine tk 3 hH0 ?_
  refine tk 4 hH0 ?_
  refine tk 5 hH0 ?_
  refine rd 6 (fun K hK => ?_)
  obtain ⟨wp, hrun, hbp, kp⟩ := hput.out
  refine step_store_run (by rfl) 53 (.tmp 36) (.tmp 33) rfl (by rfl) (by rfl) hrun ?_
  have KP : RowKit.Hid (Keep (fun k => k = q) w3 wp) := ((Keep.refl (fun k => k = q) _).drew).trans kp
  clear kp
  refine hK.out _ _ (KP.out) (fun hH1 => ?_)
  clear hK K
  simp only [Act.put]
  refine wpAnyH_done (by kernel_rfl) ?_ _
  refine NoPanic.normal ?_
  have HF : RowKit.Hid (Sv wp q p g cap N l1 (upd s j (some x))) := ⟨H3.out.arr.keep KP.out (fun e => H3.out.qp e.symm) (fun e => H3.out.qg e.symm), ⟨hbp, hN'.out, hok.out⟩, H3.out.qp, H3.out.qg, hwl'.out⟩
  have KF : RowKit.Hid (Keep (fun k => k = q ∨ k = g) w wp) := K3.out.trans (KP.out.mono (fun _ _ e => Or.inl e))
  clear H3 K3 hbl3 hput hok KP hbp hrun
  go_wp2_with fail
  go_ret
  exact ⟨rfl, HF.out, KF.out⟩
end Tg
end Go.Proofs.YtjgnajopomadpaaGreat
namespace Go.Proofs.YtjgnajopomadpaaGreat
open Go.ChangeShapes Go.WideShapes Go.ChangeAt Go.RowKit
namespace Tg
open Qm Crc
set_option maxRecDepth 100000 in
set_option maxHeartbeats 1000000 in
theorem read_any {w : World} {q p g cap N : Nat} {l : List Int} {s : Nat → Option En} (h : Sv w q p g cap N l s) (ds : Ds N l s) (nm : ByteArray) (at' n : Int) (ha : I64 at') (hn : I64 n) :
    Calls Tryz.prog 12 #[Ptr q, .string nm, .int .i64 at', .int .i64 n] w fun e w' => e = .returned (.tuple #[.string (strOfNums (readS l s nm at' n).1), .int .i64 (readS l s nm at' n).2]) ∧ Keep (fun _ => False) w w' := by
  have h1 := locate_any h.vst ds.sp nm at' n ha hn
  have hp := place_or ds.sp nm at' n
  have hN := h.vst.N9
  obtain ⟨a, hfa⟩ : ∃ a, a = (placeS s nm at' n).1 := ⟨_, rfl⟩
  obtain ⟨b, hfb⟩ : ∃ b, b = (placeS s nm at' n).2 := ⟨_, rfl⟩
  obtain ⟨R, hR⟩ : ∃ R, R = readS l s nm at' n := ⟨_, rfl⟩
  have hq : RowKit.Hid (R = if b = 0 then (rdL l a.toNat n.toNat, 0) else ([], b)) := by show _ = _; rw [hR, hfa, hfb]; rfl
  rw [← hR]
  rw [← hfa, ← hfb] at h1 hp
  have H0 : RowKit.Hid (Sv w q p g cap N l s) := h
  clear hfa hfb hR h ds
  go_enter Tryz.func12, Tryz.ntmps12
  go_wp2_with fail
  refine h1.mono ?_
  rintro e w1 ⟨rfl, k1⟩
  have H1 : RowKit.Hid (Sv w1 q p g cap N l s) := H0.out.keep k1 (fun e => e) (fun e => e) (fun e => e)
  have K1 : RowKit.Hid (Keep (fun _ => False) w w1) := k1
  clear h1 k1 H0
  rcases hp with ⟨hb0, ha0⟩ | ⟨i, A, k, x, hb0, ha0, hnk, hk1, hA8, hAN, -⟩
  · have e1 : RowKit.Hid (R = ([], b)) := by show _ = _; rw [hq.out, if_neg hb0]
    clear hq H1 hN ha hn
    go_wp2_with fail
    exact bodyPost_ret (results_tmp2 rfl _ _ _) rfl ⟨by rw [e1.out]; rfl, K1.out⟩
  · have e1 : RowKit.Hid (R = (rdL l A k, 0)) := by show _ = _; rw [hq.out, if_pos hb0, ha0, hnk]; rfl
    have c0 := H1.out.disk
    have hI := invRead p (A : Int) (k : Int) w1
    have hrd := read_yes H1.out.arr H1.out.len hN.2 (lba := A) (n := k) (okR_nat hk1 hAN)
    subst hb0 ha0 hnk
    clear hq H1 hN ha hn hk1 hA8 hAN
    obtain ⟨T, hT⟩ : ∃ T, RowKit.Hid (T = strOfNums (rdL l A k)) := ⟨_, rfl⟩
    rw [← hT.out] at hrd
    go_wp2_with fail
    refine hrd.mono ?_
    rintro e w2 ⟨rfl, e2⟩
    have e2 := e2.symm
    subst e2
    clear hrd hI c0
    go_wp2_with fail
    exact bodyPost_ret (results_tmp2 rfl _ _ _) rfl ⟨by rw [e1.out, hT.out]; rfl, K1.out⟩
set_option maxRecDepth 100000 in
set_option maxHeartbeats 1000000 in
theorem write_any {w : World} {q p g cap N : Nat} {l : List Int} {s : Nat → Option En} (h : Sv w q p g cap N l s) (ds : Ds N l s) (nm : ByteArray) (at' n : Int) (ha : I64 at') (hn : I64 n) (d : ByteArray) :
    Calls Tryz.prog 27 #[Ptr q, .string nm, .int .i64 at', .int .i64 n, .string d] w fun e w' => e = .returned (.int .i64 (writeS l s nm at' n d).e) ∧ Sv w' q p g cap N (writeS l s nm at' n d).l (writeS l s nm at' n d).s ∧ Ds N (writeS l s nm at' n d).l (writeS l s nm at' n d).s ∧ Keep (fun k => k = q ∨ k = g) w w' := by
  have h1 := locate_any h.vst ds.sp nm at' n ha hn
  have hp := place_or ds.sp nm at' n
  have hN := h.vst.N9
  obtain ⟨a, hfa⟩ : ∃ a, a = (placeS s nm at' n).1 := ⟨_, rfl⟩
  obtain ⟨b, hfb⟩ : ∃ b, b = (placeS s nm at' n).2 := ⟨_, rfl⟩
  obtain ⟨R, hR⟩ : ∃ R, R = writeS l s nm at' n d := ⟨_, rfl⟩
  have hq : RowKit.Hid (R = if b = 0 then ⟨wrL l a.toNat n.toNat (nums d), s, 0⟩ else ⟨l, s, b⟩) := by show _ = _; rw [hR, hfa, hfb]; rfl
  rw [← hR]
  rw [← hfa, ← hfb] at h1 hp
  have H0 : RowKit.Hid (Sv w q p g cap N l s) := h
  have D0 : RowKit.Hid (Ds N l s) := ds
  clear hfa hfb hR h ds
  go_enter Tryz.func27, Tryz.ntmps27
  go_wp2_with fail
  refine h1.mono ?_
  rintro e w1 ⟨rfl, k1⟩
  have H1 : RowKit.Hid (Sv w1 q p g cap N l s) := H0.out.keep k1 (fun e => e) (fun e => e) (fun e => e)
  have K1 : RowKit.Hid (Keep (fun k => k = q ∨ k = g) w w1) := k1.mono (fun _ _ e => e.elim)
  clear h1 k1 H0
  rcases hp with ⟨hb0, ha0⟩ | ⟨i, A, k, x, hb0, ha0, hnk, hk1, hA8, hAN, -⟩
  · have e1 : RowKit.Hid (R = ⟨l, s, b⟩) := by show _ = _; rw [hq.out, if_neg hb0]
    clear hq hN ha hn
    go_wp2_with fail
    go_ret
    exact ⟨by rw [e1.out]; rfl, by rw [e1.out]; exact H1.out, by rw [e1.out]; exact D0.out, K1.out⟩
  · have e1 : RowKit.Hid (R = ⟨wrL l A k (nums d), s, 0⟩) := by show _ = _; rw [hq.out, if_pos hb0, ha0, hnk]; rfl
    have c0 := H1.out.disk
    have hI := invWrite p (A : Int) (k : Int) d w1
    have hrd := write_yes H1.out.arr H1.out.len hN.2 (lba := A) (n := k) (okR_nat hk1 hAN) d
    have D1 : RowKit.Hid (Ds N (wrL l A k (nums d)) s) := D0.out.wr D0.out.sp hAN (nums_b8 d)
    obtain ⟨l1, hl1⟩ : ∃ l1, RowKit.Hid (l1 = wrL l A k (nums d)) := ⟨_, rfl⟩
    rw [← hl1.out] at hrd D1 e1
    subst hb0 ha0 hnk
    clear hq hN ha hn hk1 hA8 hAN D0 hl1
    go_wp2_with fail
    refine hrd.mono ?_
    rintro e w2 ⟨rfl, a2, k2⟩
    have H2 : RowKit.Hid (Sv w2 q p g cap N l1 s) := H1.out.wrote a2 D1.out.len k2
    have K2 : RowKit.Hid (Keep (fun k => k = q ∨ k = g) w w2) := K1.out.trans (k2.mono (fun _ _ e => Or.inr e))
    clear hrd hI c0 a2 k2 H1 K1
    go_wp2_with fail
    go_ret
    exact ⟨by rw [e1.out]; rfl, by rw [e1.out]; exact H2.out, by rw [e1.out]; exact D1.out, K2.out⟩
set_option maxRecDepth 100000 in
set_option maxHeartbeats 1000000 in
theorem dcopy_any {w : World} {p g cap N : Nat} {l : List Int} (h : Arr w p g cap l) (hl : l.length = N * 32) (hN : N ≤ 512) {f n a : Nat} (hn : 1 ≤ n) (hf : f + n ≤ N) (ha : a + n ≤ N) :
    Calls Tryz.prog 54 #[dk p, dk p, .int .i64 (f : Int), .int .i64 (n : Int), .int .i64 (a : Int)] w fun e w' => e = .returned (.int .i64 0) ∧ Arr w' p g cap (wrL l a n (rdL l f n)) ∧ Keep (fun k => k = g) w w' := by
  have hI := invRead p (f : Int) (n : Int) w
  have hrd := read_yes h hl hN (lba := f) (n := n) (okR_nat hn hf)
  have hwr := write_yes h hl hN (lba := a) (n := n) (okR_nat hn ha) (strOfNums (rdL l f n))
  rw [nums_str (rdL_b8 h.b8)] at hwr
  have hJ := invWrite p (a : Int) (n : Int) (strOfNums (rdL l f n)) w
  generalize strOfNums (rdL l f n) = T at *
  generalize wrL l a n (rdL l f n) = l1 at *
  clear h hl hN hn hf ha
  go_enter Tryz.func54, Tryz.ntmps54
  go_wp2_with fail
  refine hrd.mono ?_
  rintro e w2 ⟨rfl, e2⟩
  have e2 := e2.symm
  subst e2
  clear hrd hI
  go_wp2_with fail
  refine hwr.mono ?_
  rintro e w3 ⟨rfl, a3, k3⟩
  have A3 : RowKit.Hid (Arr w3 p g cap l1) := a3
  have K3 : RowKit.Hid (Keep (fun k => k = g) w w3) := k3
  clear hwr hJ a3 k3
  go_wp2_with fail
  go_ret
  exact ⟨rfl, A3.out, K3.out⟩
end Tg
end Go.Proofs.YtjgnajopomadpaaGreat
namespace Go.Proofs.YtjgnajopomadpaaGreat
open Go.ChangeShapes Go.WideShapes Go.ChangeAt Go.RowKit
namespace Tg
open Qm Crc
/-- What a call leaves. -/
structure Sd (w : World) (q p g cap N : Nat) (R : Rs) : Prop where
  sv : Sv w q p g cap N R.l R.s
  ds : Ds N R.l R.s
theorem enter_str {w : World} {q p g cap N : Nat} {l : List Int} {s : Nat → Option En} (h : Sv w q p g cap N l s) {j : Nat} (hj : j < 8) {nm : ByteArray} {f n i : Int} (hx : (⟨nums nm, f, n, i⟩ : En).Ok N) :
    Calls Tryz.prog 35 #[Ptr q, .int .i64 (j : Int), .string nm, .int .i64 f, .int .i64 n] w fun e w' => e = .returned (.int .i64 0) ∧ Sv w' q p g cap N (wrL l j 1 (bytesE (nums nm) f n)) (upd s j (some ⟨nums nm, f, n, i⟩)) ∧ Keep (fun k => k = q ∨ k = g) w w' := by
  have := enter_any h hj hx
  simp only [str_nums] at this
  exact this
theorem createS_arg {N : Nat} {l : List Int} {s : Nat → Option En} {nm : ByteArray} {n : Int} (h : goodS (bs nm) = false ∨ n < 1 ∨ 512 < n) : createS N l s nm n = ⟨l, s, 1⟩ := if_pos h
theorem createS_ord {N : Nat} {l : List Int} {s : Nat → Option En} {nm : ByteArray} {n : Int} (h : ¬ (goodS (bs nm) = false ∨ n < 1 ∨ 512 < n)) (h2 : (volOf (lst s) nm).isSome = true) : createS N l s nm n = ⟨l, s, 8⟩ := by unfold createS; rw [if_neg h, if_pos h2]
theorem createS_full {N : Nat} {l : List Int} {s : Nat → Option En} {nm : ByteArray} {n : Int} (h : ¬ (goodS (bs nm) = false ∨ n < 1 ∨ 512 < n)) (h2 : volOf (lst s) nm = none) (h3 : roomL N (lst s) n.toNat = none) : createS N l s nm n = ⟨l, s, 5⟩ := by unfold createS; rw [if_neg h, h2, h3]; rfl
theorem createS_yes {N : Nat} {l : List Int} {s : Nat → Option En} {nm : ByteArray} {n : Int} (h : ¬ (goodS (bs nm) = false ∨ n < 1 ∨ 512 < n)) (h2 : volOf (lst s) nm = none) {a : Nat} {j : Int} (h3 : roomL N (lst s) n.toNat = some (a, j)) : createS N l s nm n = ⟨wrL (wrL l a n.toNat []) j.toNat 1 (bytesE (nums nm) a n), upd s j.toNat (some ⟨nums nm, a, n, j⟩), 0⟩ := by unfold createS; rw [if_neg h, h2, h3]; rfl
set_option maxRecDepth 100000 in
set_option maxHeartbeats 1000000 in
theorem create_any {w : World} {q p g cap N : Nat} {l : List Int} {s : Nat → Option En} (h : Sv w q p g cap N l s) (ds : Ds N l s) (nm : ByteArray) (n : Int) (i1 : nm.size ≤ 9223372036854775807) (i2 : I64 n) :
    Calls Tryz.prog 11 #[Ptr q, .string nm, .int .i64 n] w fun e w' => e = .returned (.int .i64 (createS N l s nm n).e) ∧ Sd w' q p g cap N (createS N l s nm n) ∧ Keep (fun k => k = q ∨ k = g) w w' := by
  have hg := good_any nm i1 w
  obtain ⟨R, hR⟩ : ∃ R, R = createS N l s nm n := ⟨_, rfl⟩
  have hq : RowKit.Hid (R = createS N l s nm n) := hR
  rw [← hR]
  have hN : RowKit.Hid (9 ≤ N ∧ N ≤ 512) := h.vst.N9
  have H0 : RowKit.Hid (Sv w q p g cap N l s) := h
  have D0 : RowKit.Hid (Ds N l s) := ds
  have i2' : RowKit.Hid (I64 n) := i2
  obtain ⟨G, hG⟩ : ∃ G, G = goodS (bs nm) := ⟨_, rfl⟩
  rw [← hG] at hg
  have hG' : RowKit.Hid (G = goodS (bs nm)) := hG
  clear hG hR h ds i1 i2
  go_enter Tryz.func11, Tryz.ntmps11
  go_wp2_with fail
  refine hg.mono ?_
  rintro e w1 ⟨rfl, k1⟩
  have H1 : RowKit.Hid (Sv w1 q p g cap N l s) := H0.out.keep k1 (fun e => e) (fun e => e) (fun e => e)
  have K1 : RowKit.Hid (Keep (fun k => k = q ∨ k = g) w w1) := k1.mono (fun _ _ e => e.elim)
  clear hg k1 H0
  cases G with
  | false =>
    have e1 : RowKit.Hid (R = ⟨l, s, 1⟩) := by show _ = _; rw [hq.out, createS_arg (Or.inl hG'.out.symm)]
    clear hq hG' hN
    go_wp2_with fail
    go_ret
    exact ⟨by rw [e1.out]; rfl, ⟨by rw [e1.out]; exact H1.out, by rw [e1.out]; exact D0.out⟩, K1.out⟩
  | true =>
    by_cases c1 : n < 1
    · have e1 : RowKit.Hid (R = ⟨l, s, 1⟩) := by show _ = _; rw [hq.out, createS_arg (Or.inr (Or.inl c1))]
      clear hq hG' hN
      go_wp2_with fail
      go_ret
      exact ⟨by rw [e1.out]; rfl, ⟨by rw [e1.out]; exact H1.out, by rw [e1.out]; exact D0.out⟩, K1.out⟩
    · by_cases c2 : 512 < n
      · have e1 : RowKit.Hid (R = ⟨l, s, 1⟩) := by show _ = _; rw [hq.out, createS_arg (Or.inr (Or.inr c2))]
        clear hq hG' hN
        go_wp2_with fail
        go_ret
        exact ⟨by rw [e1.out]; rfl, ⟨by rw [e1.out]; exact H1.out, by rw [e1.out]; exact D0.out⟩, K1.out⟩
      · have ok : RowKit.Hid (¬ (goodS (bs nm) = false ∨ n < 1 ∨ 512 < n)) := by
          show ¬ _
          rw [← hG'.out]
          simp only [Bool.true_eq_false, false_or]
          omega
        have hfi := find_any H1.out.vst nm
        have hc := fnd_or D0.out.sp nm
        generalize feF (fun i => !hitB s nm i) 8 = m at *
        go_wp2_with fail
        refine hfi.mono ?_
        rintro e w2 ⟨rfl, k2⟩
        have H2 : RowKit.Hid (Sv w2 q p g cap N l s) := H1.out.keep k2 (fun e => e) (fun e => e) (fun e => e)
        have K2 : RowKit.Hid (Keep (fun k => k = q ∨ k = g) w w2) := K1.out.trans (k2.mono (fun _ _ e => e.elim))
        clear hfi k2 H1 K1
        rcases hc with ⟨hm, hv⟩ | ⟨i, x, hm, hi, hx, hnm, hxi, hv⟩
        · subst hm
          have hv' : RowKit.Hid (volOf (lst s) nm = none) := hv
          obtain ⟨k, hk⟩ : ∃ k : Nat, n = (k : Int) := ⟨n.toNat, by omega⟩
          subst hk
          have hkb : RowKit.Hid (1 ≤ k ∧ k ≤ 512) := ⟨by omega, by omega⟩
          have hpl := place_any H2.out.vst D0.out.sp hkb.out
          have hro := D0.out.sp.room hkb.out.1
          clear hv hG'
          rcases hro with ⟨hr, -⟩ | ⟨a, j, hr, hj8, -, -, hft, -⟩
          · have e1 : RowKit.Hid (R = ⟨l, s, 5⟩) := by show _ = _; rw [hq.out, createS_full ok.out hv'.out hr]
            rw [hr] at hpl
            clear hr hq ok hv' hN
            go_wp2_with fail
            refine hpl.mono ?_
            rintro e w3 ⟨a, b, rfl, -, k3⟩
            have H3 : RowKit.Hid (Sv w3 q p g cap N l s) := H2.out.keep k3 (fun e => e) (fun e => e) (fun e => e)
            have K3 : RowKit.Hid (Keep (fun k => k = q ∨ k = g) w w3) := K2.out.trans (k3.mono (fun _ _ e => e.elim))
            clear hpl k3 H2 K2
            go_wp2_with fail
            go_ret
            exact ⟨by rw [e1.out]; rfl, ⟨by rw [e1.out]; exact H3.out, by rw [e1.out]; exact D0.out⟩, K3.out⟩
          · have e1 : RowKit.Hid (R = ⟨wrL (wrL l a k []) j 1 (bytesE (nums nm) a k), upd s j (some ⟨nums nm, a, k, j⟩), 0⟩) := by show _ = _; rw [hq.out, createS_yes ok.out hv'.out hr]; rfl
            have hsp : RowKit.Hid (Sp N (upd s j (some ⟨nums nm, (a : Int), (k : Int), (j : Int)⟩))) := D0.out.sp.add (by have := ok.out; cases hh : goodS (bs nm) <;> simp [hh] at this ⊢) hv'.out hkb.out.1 hj8 hft
            have hok : RowKit.Hid ((⟨nums nm, (a : Int), (k : Int), (j : Int)⟩ : En).Ok N) := (hsp.out.ok j _ hj8 (by unfold upd; rw [if_pos rfl])).1
            have hft' : RowKit.Hid (a + k ≤ N) := hft.2.1
            have hj' : RowKit.Hid (j < 8) := hj8
            rw [hr] at hpl
            have hr' : RowKit.Hid (roomL N (lst s) k = some (a, (j : Int))) := hr
            clear hr hq ok hv' hft hj8
            go_wp2_with fail
            refine hpl.mono ?_
            rintro e w3 ⟨a', b', rfl, hab, k3⟩
            obtain ⟨rfl, rfl⟩ := hab a (j : Int) rfl
            have H3 : RowKit.Hid (Sv w3 q p g cap N l s) := H2.out.keep k3 (fun e => e) (fun e => e) (fun e => e)
            have K3 : RowKit.Hid (Keep (fun k => k = q ∨ k = g) w w3) := K2.out.trans (k3.mono (fun _ _ e => e.elim))
            clear hpl k3 H2 K2 hab
            have c0 := H3.out.disk
            have hI := invTrim p (a : Int) (k : Int) w3
            have htr := trim_yes H3.out.arr H3.out.len hN.out.2 (lba := a) (n := k) (okR_nat hkb.out.1 hft'.out)
            have D1 : RowKit.Hid (Ds N (wrL l a k []) s) := D0.out.wr D0.out.sp hft'.out b8_nil
            obtain ⟨l1, hl1⟩ : ∃ l1, RowKit.Hid (l1 = wrL l a k []) := ⟨_, rfl⟩
            rw [← hl1.out] at htr D1 e1
            clear hl1
            go_wp2_with fail
            refine htr.mono ?_
            rintro e w4 ⟨rfl, a4, k4⟩
            have H4 : RowKit.Hid (Sv w4 q p g cap N l1 s) := H3.out.wrote a4 D1.out.len k4
            have K4 : RowKit.Hid (Keep (fun k => k = q ∨ k = g) w w4) := K3.out.trans (k4.mono (fun _ _ e => Or.inr e))
            have hen := enter_str H4.out hj'.out hok.out
            clear htr hI c0 a4 k4 H3 K3
            have D2 : RowKit.Hid (Ds N (wrL l1 j 1 (bytesE (nums nm) a k)) (upd s j (some ⟨nums nm, (a : Int), (k : Int), (j : Int)⟩))) := D1.out.wr hsp.out (by have := hN.out; have := hj'.out; omega) (bytesE_b8 (nums_b8 nm) _ _)
            obtain ⟨l2, hl2⟩ : ∃ l2, RowKit.Hid (l2 = wrL l1 j 1 (bytesE (nums nm) a k)) := ⟨_, rfl⟩
            rw [← hl2.out] at hen D2 e1
            clear hl2 hsp D0
            go_wp2_with fail
            refine hen.mono ?_
            rintro e w5 ⟨rfl, s5, k5⟩
            have H5 : RowKit.Hid (Sv w5 q p g cap N l2 (upd s j (some ⟨nums nm, (a : Int), (k : Int), (j : Int)⟩))) := s5
            have K5 : RowKit.Hid (Keep (fun k => k = q ∨ k = g) w w5) := K4.out.trans k5
            clear hen s5 k5 H4 K4
            go_wp2_with fail
            go_ret
            exact ⟨by rw [e1.out]; rfl, ⟨by rw [e1.out]; exact H5.out, by rw [e1.out]; exact D2.out⟩, K5.out⟩
        · subst hm
          have e1 : RowKit.Hid (R = ⟨l, s, 8⟩) := by show _ = _; rw [hq.out, createS_ord ok.out (by rw [hv]; rfl)]
          have hi0 : (0 : Int) ≤ (i : Int) := by omega
          clear hq ok hG' hN hx hnm hxi hv
          go_wp2_with fail
          go_ret
          exact ⟨by rw [e1.out]; rfl, ⟨by rw [e1.out]; exact H2.out, by rw [e1.out]; exact D0.out⟩, K2.out⟩
theorem deleteS_no {l : List Int} {s : Nat → Option En} {nm : ByteArray} (h : volOf (lst s) nm = none) : deleteS l s nm = ⟨l, s, 4⟩ := by unfold deleteS; rw [h]
theorem deleteS_yes {l : List Int} {s : Nat → Option En} {nm : ByteArray} {x : En} (h : volOf (lst s) nm = some x) {i : Nat} (hi : x.i = i) : deleteS l s nm = ⟨wrL l i 1 [], upd s i none, 0⟩ := by unfold deleteS; rw [h]; show (⟨wrL l x.i.toNat 1 [], upd s x.i.toNat none, 0⟩ : Rs) = _; rw [hi]; rfl
set_option maxRecDepth 100000 in
set_option maxHeartbeats 1000000 in
theorem delete_any {w : World} {q p g cap N : Nat} {l : List Int} {s : Nat → Option En} (h : Sv w q p g cap N l s) (ds : Ds N l s) (nm : ByteArray) :
    Calls Tryz.prog 13 #[Ptr q, .string nm] w fun e w' => e = .returned (.int .i64 (deleteS l s nm).e) ∧ Sd w' q p g cap N (deleteS l s nm) ∧ Keep (fun k => k = q ∨ k = g) w w' := by
  have hfi := find_any h.vst nm
  have hc := fnd_or ds.sp nm
  obtain ⟨R, hR⟩ : ∃ R, R = deleteS l s nm := ⟨_, rfl⟩
  have hq : RowKit.Hid (R = deleteS l s nm) := hR
  rw [← hR]
  have hN : RowKit.Hid (9 ≤ N ∧ N ≤ 512) := h.vst.N9
  have H0 : RowKit.Hid (Sv w q p g cap N l s) := h
  have D0 : RowKit.Hid (Ds N l s) := ds
  generalize feF (fun i => !hitB s nm i) 8 = m at *
  clear hR h ds
  go_enter Tryz.func13, Tryz.ntmps13
  go_wp2_with fail
  refine hfi.mono ?_
  rintro e w1 ⟨rfl, k1⟩
  have H1 : RowKit.Hid (Sv w1 q p g cap N l s) := H0.out.keep k1 (fun e => e) (fun e => e) (fun e => e)
  have K1 : RowKit.Hid (Keep (fun k => k = q ∨ k = g) w w1) := k1.mono (fun _ _ e => e.elim)
  clear hfi k1 H0
  rcases hc with ⟨hm, hv⟩ | ⟨i, x, hm, hi, hx, hnm, hxi, hv⟩
  · subst hm
    have e1 : RowKit.Hid (R = ⟨l, s, 4⟩) := by show _ = _; rw [hq.out, deleteS_no hv]
    clear hq hN hv
    go_wp2_with fail
    go_ret
    exact ⟨by rw [e1.out]; rfl, ⟨by rw [e1.out]; exact H1.out, by rw [e1.out]; exact D0.out⟩, K1.out⟩
  · subst hm
    have e1 : RowKit.Hid (R = ⟨wrL l i 1 [], upd s i none, 0⟩) := by show _ = _; rw [hq.out, deleteS_yes hv hxi]
    have hi0 : ¬ (i : Int) < 0 := by omega
    have hi1 : (0 : Int) ≤ (i : Int) := by omega
    have hi8 : (i : Int) < 8 := by omega
    have hi' : RowKit.Hid (i < 8) := hi
    have c0 := H1.out.disk
    have hI := invTrim p (i : Int) 1 w1
    have htr := trim_yes H1.out.arr H1.out.len hN.out.2 (lba := i) (n := 1) (okR_nat (by omega) (by have := hN.out; omega))
    have D1 : RowKit.Hid (Ds N (wrL l i 1 []) (upd s i none)) := D0.out.wr (D0.out.sp.del i) (by have := hN.out; omega) b8_nil
    obtain ⟨l1, hl1⟩ : ∃ l1, RowKit.Hid (l1 = wrL l i 1 []) := ⟨_, rfl⟩
    rw [← hl1.out] at htr D1 e1
    have t1 : ((1 : Nat) : Int) = 1 := rfl
    rw [t1] at htr
    clear hl1 hq hx hnm hxi hv t1 D0 hi
    go_wp2_with fail
    refine htr.mono ?_
    rintro e w4 ⟨rfl, a4, k4⟩
    have H4 : RowKit.Hid (Sv w4 q p g cap N l1 s) := H1.out.wrote a4 D1.out.len k4
    have K4 : RowKit.Hid (Keep (fun k => k = q ∨ k = g) w w4) := K1.out.trans (k4.mono (fun _ _ e => Or.inr e))
    clear htr hI c0 a4 k4 H1 K1
    obtain ⟨w5, hrun, hb5, k5⟩ := stC_put H4.out.vst.blk hi'.out none
    have H5 : RowKit.Hid (Sv w5 q p g cap N l1 (upd s i none)) := ⟨H4.out.arr.keep k5 (fun e => H4.out.qp e.symm) (fun e => H4.out.qg e.symm), ⟨hb5, hN.out, fun i e hi he => (D1.out.sp.ok i e hi he).1⟩, H4.out.qp, H4.out.qg, D1.out.len⟩
    have K5 : RowKit.Hid (Keep (fun k => k = q ∨ k = g) w w5) := K4.out.trans (k5.mono (fun _ _ e => Or.inl e))
    clear H4 K4 hb5 k5
    go_wp2_with (guard_target =~ wpList _ _ _ (Oper.mk _ (Op.store 53 _ _) _ _ _ _ :: _) _ _; refine wpList_store_run (by rfl) 53 (.tmp 26) (.tmp 23) rfl (by rfl) (by rfl) hrun ?_)
    go_ret
    exact ⟨by rw [e1.out]; rfl, ⟨by rw [e1.out]; exact H5.out, by rw [e1.out]; exact D1.out⟩, K5.out⟩
end Tg
end Go.Proofs.YtjgnajopomadpaaGreat
namespace Go.Proofs.YtjgnajopomadpaaGreat
open Go.ChangeShapes Go.WideShapes Go.ChangeAt Go.RowKit
namespace Tg
open Qm Crc
set_option maxRecDepth 100000 in
theorem gcallEnter (args : Array Value) (w : World) : (callFunc 35 args).run Tryz.prog w = .ok (.enter 35 args) w := enters Tryz.func35 (by kernel_rfl) (by kernel_rfl) args w
set_option maxRecDepth 100000 in
theorem gcallCopy (args : Array Value) (w : World) : (callFunc 54 args).run Tryz.prog w = .ok (.enter 54 args) w := enters Tryz.func54 (by kernel_rfl) (by kernel_rfl) args w
/-- What a second name is refused for, or the volume that gets it. -/
theorem another_or {N : Nat} {l : List Int} {s : Nat → Option En} (h : Sp N s) (nm nt : ByteArray) :
    (∃ b : Int, b ≠ 0 ∧ anotherS s nm nt = (0, b) ∧ renameS l s nm nt = ⟨l, s, b⟩ ∧ cloneS N l s nm nt = ⟨l, s, b⟩) ∨
    (∃ (i : Nat) (x : En), i < 8 ∧ s i = some x ∧ goodS (bs nt) = true ∧ volOf (lst s) nt = none ∧ anotherS s nm nt = ((i : Int), 0) ∧ renameS l s nm nt = ⟨wrL l i 1 (bytesE (nums nt) x.f x.n), upd s i (some ⟨nums nt, x.f, x.n, (i : Int)⟩), 0⟩ ∧
      cloneS N l s nm nt = (match roomL N (lst s) x.n.toNat with | none => ⟨l, s, 5⟩ | some (a, j) => ⟨wrL (wrL l a x.n.toNat (rdL l x.f.toNat x.n.toNat)) j.toNat 1 (bytesE (nums nt) a x.n), upd s j.toNat (some ⟨nums nt, a, x.n, j⟩), 0⟩)) := by
  rcases fnd_or h nm with ⟨-, hv⟩ | ⟨i, x, -, hi, hx, -, hxi, hv⟩
  · refine Or.inl ⟨4, by decide, ?_, ?_, ?_⟩
    · unfold anotherS; rw [hv]
    · unfold renameS; rw [hv]
    · unfold cloneS; rw [hv]
  · by_cases hg : goodS (bs nt) = false
    · refine Or.inl ⟨1, by decide, ?_, ?_, ?_⟩
      · unfold anotherS; rw [hv]; show (if goodS (bs nt) = false then _ else _) = _; rw [if_pos hg]
      · unfold renameS; rw [hv]; show (if goodS (bs nt) = false then _ else _) = _; rw [if_pos hg]
      · unfold cloneS; rw [hv]; show (if goodS (bs nt) = false then _ else _) = _; rw [if_pos hg]
    · by_cases hs : (volOf (lst s) nt).isSome = true
      · refine Or.inl ⟨8, by decide, ?_, ?_, ?_⟩
        · unfold anotherS; rw [hv]; show (if goodS (bs nt) = false then _ else _) = _; rw [if_neg hg, if_pos hs]
        · unfold renameS; rw [hv]; show (if goodS (bs nt) = false then _ else _) = _; rw [if_neg hg, if_pos hs]
        · unfold cloneS; rw [hv]; show (if goodS (bs nt) = false then _ else _) = _; rw [if_neg hg, if_pos hs]
      · refine Or.inr ⟨i, x, hi, hx, by simpa using hg, by simpa using hs, ?_, ?_, ?_⟩
        · unfold anotherS; rw [hv]; show (if goodS (bs nt) = false then _ else _) = _; rw [if_neg hg, if_neg hs, hxi]
        · unfold renameS; rw [hv]; show (if goodS (bs nt) = false then _ else _) = _; rw [if_neg hg, if_neg hs, hxi]; rfl
        · unfold cloneS; rw [hv]; show (if goodS (bs nt) = false then _ else _) = _; rw [if_neg hg, if_neg hs]; rfl
set_option maxRecDepth 100000 in
set_option maxHeartbeats 1000000 in
theorem rename_any {w : World} {q p g cap N : Nat} {l : List Int} {s : Nat → Option En} (h : Sv w q p g cap N l s) (ds : Ds N l s) (nm nt : ByteArray) (hnt : nt.size ≤ 9223372036854775807) :
    Calls Tryz.prog 14 #[Ptr q, .string nm, .string nt] w fun e w' => e = .returned (.int .i64 (renameS l s nm nt).e) ∧ Sd w' q p g cap N (renameS l s nm nt) ∧ Keep (fun k => k = q ∨ k = g) w w' := by
  have h1 := another_any h.vst ds.sp nm nt hnt
  have hor := another_or (l := l) ds.sp nm nt
  obtain ⟨R, hR⟩ : ∃ R, R = renameS l s nm nt := ⟨_, rfl⟩
  rw [← hR] at hor ⊢
  obtain ⟨A, hA⟩ : ∃ A, A = anotherS s nm nt := ⟨_, rfl⟩
  rw [← hA] at hor h1
  have hN : RowKit.Hid (9 ≤ N ∧ N ≤ 512) := h.vst.N9
  have H0 : RowKit.Hid (Sv w q p g cap N l s) := h
  have D0 : RowKit.Hid (Ds N l s) := ds
  obtain ⟨A1, A2⟩ := A
  clear hA hR h ds hnt
  go_enter Tryz.func14, Tryz.ntmps14
  go_wp2_with fail
  refine h1.mono ?_
  rintro e w1 ⟨rfl, k1⟩
  have H1 : RowKit.Hid (Sv w1 q p g cap N l s) := H0.out.keep k1 (fun e => e) (fun e => e) (fun e => e)
  have K1 : RowKit.Hid (Keep (fun k => k = q ∨ k = g) w w1) := k1.mono (fun _ _ e => e.elim)
  clear h1 k1 H0
  rcases hor with ⟨b, hb, hA, hr, -⟩ | ⟨i, x, hi, hx, hgd, hno, hA, hr, -⟩
  · injection hA with hA1 hA2
    subst hA1; subst hA2
    have e1 : RowKit.Hid (R = ⟨l, s, A2⟩) := hr
    clear hr hN
    go_wp2_with fail
    go_ret
    exact ⟨by rw [e1.out]; rfl, ⟨by rw [e1.out]; exact H1.out, by rw [e1.out]; exact D0.out⟩, K1.out⟩
  · injection hA with hA1 hA2
    subst hA1; subst hA2
    have e1 : RowKit.Hid (R = ⟨wrL l i 1 (bytesE (nums nt) x.f x.n), upd s i (some ⟨nums nt, x.f, x.n, (i : Int)⟩), 0⟩) := hr
    have hsp : RowKit.Hid (Sp N (upd s i (some ⟨nums nt, x.f, x.n, (i : Int)⟩))) := D0.out.sp.ren hi hx hgd hno
    have hok : RowKit.Hid ((⟨nums nt, x.f, x.n, (i : Int)⟩ : En).Ok N) := (hsp.out.ok i _ hi (by unfold upd; rw [if_pos rfl])).1
    have hen : RowKit.Hid (Calls Tryz.prog 35 #[Ptr q, .int .i64 (i : Int), .string nt, .int .i64 x.f, .int .i64 x.n] w1.drew fun e w' => e = .returned (.int .i64 0) ∧ Sv w' q p g cap N (wrL l i 1 (bytesE (nums nt) x.f x.n)) (upd s i (some ⟨nums nt, x.f, x.n, (i : Int)⟩)) ∧ Keep (fun k => k = q ∨ k = g) w1.drew w') := enter_str (H1.out.keep ((Keep.refl (fun _ => False) w1).drew) (fun e => e) (fun e => e) (fun e => e)) hi hok.out
    have hc0 : RowKit.Hid (w1.drew.cell? ⟨q, 2 + i * 3 + 1, none⟩ = some (.int .i64 x.f) ∧ w1.drew.cell? ⟨q, 2 + i * 3 + 2, none⟩ = some (.int .i64 x.n)) := by
      have := (stC_at (H1.out.keep ((Keep.refl (fun _ => False) w1).drew) (fun e => e) (fun e => e) (fun e => e)).vst.blk hi).2
      rw [pe_some hx] at this
      exact this
    have D1 : RowKit.Hid (Ds N (wrL l i 1 (bytesE (nums nt) x.f x.n)) (upd s i (some ⟨nums nt, x.f, x.n, (i : Int)⟩))) := D0.out.wr hsp.out (by have := hN.out; omega) (bytesE_b8 (nums_b8 nt) _ _)
    have hce0 : RowKit.Hid (∀ w', Sv w' q p g cap N (wrL l i 1 (bytesE (nums nt) x.f x.n)) (upd s i (some ⟨nums nt, x.f, x.n, (i : Int)⟩)) → w'.cell? ⟨q, 2 + i * 3 + 1, none⟩ = some (.int .i64 x.f) ∧ w'.cell? ⟨q, 2 + i * 3 + 2, none⟩ = some (.int .i64 x.n)) := by
      intro w' hw
      have := (stC_at hw.vst.blk hi).2
      rw [pe_some (e := ⟨nums nt, x.f, x.n, (i : Int)⟩) (by unfold upd; rw [if_pos rfl])] at this
      exact this
    have i0 : (0 : Int) ≤ (i : Int) := by omega
    have i8 : (i : Int) < 8 := by omega
    obtain ⟨l1, hl1⟩ : ∃ l1, RowKit.Hid (l1 = wrL l i 1 (bytesE (nums nt) x.f x.n)) := ⟨_, rfl⟩
    obtain ⟨s1, hs1⟩ : ∃ s1, RowKit.Hid (s1 = upd s i (some ⟨nums nt, x.f, x.n, (i : Int)⟩)) := ⟨_, rfl⟩
    rw [← hl1.out, ← hs1.out] at hen D1 e1 hce0
    have hce : RowKit.Hid (∀ w', Sv w' q p g cap N l1 s1 → w'.cell? ⟨q, 2 + i * 3 + 1, none⟩ = some (.int .i64 x.f) ∧ w'.cell? ⟨q, 2 + i * 3 + 2, none⟩ = some (.int .i64 x.n)) := hce0
    clear hr hce0 hl1 hs1 hsp hok hi hx hgd hno hN D0
    go_upto_region 4 with fail
    refine wp_region_noPanic ?_
    refine wp_region_held_drew (S := fun w' => Keep (fun k => k = q ∨ k = g) w1 w' ∧ w'.cell? ⟨q, 2 + i * 3 + 1, none⟩ = some (.int .i64 x.f) ∧ w'.cell? ⟨q, 2 + i * 3 + 2, none⟩ = some (.int .i64 x.n)) (by kernel_rfl) (⟨(Keep.refl (fun k => k = q ∨ k = g) _).drew, hc0.out⟩) (fun hH0 => ?_)
    refine tk 0 hH0 ?_
    refine tk 1 hH0 ?_
    refine tk 2 hH0 ?_
    refine tk 3 hH0 ?_
    refine tk 4 hH0 ?_
    refine tk 5 hH0 ?_
    refine tk 6 hH0 ?_
    refine tk 7 hH0 ?_
    refine tk 8 hH0 ?_
    refine tk 9 hH0 ?_ (hy := Or.inl ⟨by rfl, by intro w' hSw; have z1 := hSw.2.1; clear hSw; go_simp; try with_reducible rfl⟩)
    refine tk 10 hH0 ?_
    refine tk 11 hH0 ?_
    refine tk 12 hH0 ?_
    refine tk 13 hH0 ?_
    refine tk 14 hH0 ?_
    refine tk 15 hH0 ?_
    refine tk 16 hH0 ?_ (hy := Or.inl ⟨by rfl, by intro w' hSw; have z1 := hSw.2.2; clear hSw; go_simp; try with_reducible rfl⟩)
    refine rd 17 (fun K hK => ?_)
    refine step_call_want (vs := #[Ptr q, .int .i64 (i : Int), .string nt, .int .i64 x.f, .int .i64 x.n]) (R := fun v wz => v = .int .i64 0 ∧ Sv wz q p g cap N l1 s1 ∧ Keep (fun k => k = q ∨ k = g) w1.drew wz) (by rfl) 35 _ _ rfl (by simp [Act.eval]) gcallEnter (hen.out.mono (by rintro e wz ⟨rfl, a, k⟩; exact ⟨_, rfl, rfl, a, k⟩)) ?_
    rintro v wz ⟨rfl, az, kz⟩
    have HZ : RowKit.Hid (Sv wz q p g cap N l1 s1) := az
    have KZ : RowKit.Hid (Keep (fun k => k = q ∨ k = g) w1 wz) := ((Keep.refl (fun k => k = q ∨ k = g) _).drew).trans kz
    clear az kz
    refine hK.out _ _ (⟨KZ.out, hce.out wz HZ.out⟩) (fun hH1 => ?_)
    clear hK K
    simp only [Act.put, List.setIfInBounds_toArray, List.set_cons_zero, List.set_cons_succ]
    refine tk 18 hH1 ?_
    refine wpAnyH_done (by kernel_rfl) ?_ _
    refine NoPanic.normal ?_
    have K5 : RowKit.Hid (Keep (fun k => k = q ∨ k = g) w wz) := K1.out.trans KZ.out
    clear hen hc0 hce H1 K1 KZ hH0 hH1
    go_wp2_with fail
    go_ret
    exact ⟨by rw [e1.out]; rfl, ⟨by rw [e1.out]; exact HZ.out, by rw [e1.out]; exact D1.out⟩, K5.out⟩
set_option maxRecDepth 100000 in
set_option maxHeartbeats 1000000 in
theorem clone_vol {w : World} {q p g cap N : Nat} {l : List Int} {s : Nat → Option En} (h : Sv w q p g cap N l s) (ds : Ds N l s) (nm nt : ByteArray) (hnt : nt.size ≤ 9223372036854775807) :
    Calls Tryz.prog 28 #[Ptr q, .string nm, .string nt] w fun e w' => e = .returned (.int .i64 (cloneS N l s nm nt).e) ∧ Sd w' q p g cap N (cloneS N l s nm nt) ∧ Keep (fun k => k = q ∨ k = g) w w' := by
  have h1 := another_any h.vst ds.sp nm nt hnt
  have hor := another_or (l := l) ds.sp nm nt
  obtain ⟨R, hR⟩ : ∃ R, R = cloneS N l s nm nt := ⟨_, rfl⟩
  rw [← hR] at hor ⊢
  obtain ⟨A, hA⟩ : ∃ A, A = anotherS s nm nt := ⟨_, rfl⟩
  rw [← hA] at hor h1
  have hN : RowKit.Hid (9 ≤ N ∧ N ≤ 512) := h.vst.N9
  have H0 : RowKit.Hid (Sv w q p g cap N l s) := h
  have D0 : RowKit.Hid (Ds N l s) := ds
  obtain ⟨A1, A2⟩ := A
  clear hA hR h ds hnt
  go_enter Tryz.func28, Tryz.ntmps28
  go_wp2_with fail
  refine h1.mono ?_
  rintro e w1 ⟨rfl, k1⟩
  have H1 : RowKit.Hid (Sv w1 q p g cap N l s) := H0.out.keep k1 (fun e => e) (fun e => e) (fun e => e)
  have K1 : RowKit.Hid (Keep (fun k => k = q ∨ k = g) w w1) := k1.mono (fun _ _ e => e.elim)
  clear h1 k1 H0
  rcases hor with ⟨b, hb, hA, -, hr⟩ | ⟨i, x, hi, hx, hgd, hno, hA, -, hr⟩
  · injection hA with hA1 hA2
    subst hA1; subst hA2
    have e1 : RowKit.Hid (R = ⟨l, s, A2⟩) := hr
    clear hr hN
    go_wp2_with fail
    go_ret
    exact ⟨by rw [e1.out]; rfl, ⟨by rw [e1.out]; exact H1.out, by rw [e1.out]; exact D0.out⟩, K1.out⟩
  · injection hA with hA1 hA2
    subst hA1; subst hA2
    have hxo := (D0.out.sp.ok i x hi hx).1
    obtain ⟨f, hf⟩ : ∃ f : Nat, x.f = (f : Int) := ⟨x.f.toNat, by have := hxo.f; omega⟩
    obtain ⟨n, hn⟩ : ∃ n : Nat, x.n = (n : Int) := ⟨x.n.toNat, by have := hxo.n; omega⟩
    have hfn : RowKit.Hid (1 ≤ n ∧ n ≤ 512 ∧ f + n ≤ N) := ⟨by have := hxo.n; omega, by have := hxo.fn; have := hxo.f; have := hN.out; omega, by have := hxo.fn; omega⟩
    have hr' : RowKit.Hid (R = (match roomL N (lst s) n with | none => ⟨l, s, 5⟩ | some (a, j) => ⟨wrL (wrL l a n (rdL l f n)) j.toNat 1 (bytesE (nums nt) a n), upd s j.toNat (some ⟨nums nt, a, n, j⟩), 0⟩)) := by show _ = _; rw [hr, hf, hn]; rfl
    have hld : (Instr.loadAt 53 (.pointer (some ⟨q, 2 + i * 3, none⟩))).run Tryz.prog w1 = .ok (.agg #[.string (strOfNums x.nm), .int .i64 (f : Int), .int .i64 (n : Int)]) w1 := by
      have := stC_at H1.out.vst.blk hi
      rw [pe_some hx, hf, hn] at this
      exact load53_at this.1 this.2.1 this.2.2
    have i0 : (0 : Int) ≤ (i : Int) := by omega
    have i8 : (i : Int) < 8 := by omega
    have hro := D0.out.sp.room hfn.out.1
    have hgd' : RowKit.Hid (goodS (bs nt) = true) := hgd
    have hno' : RowKit.Hid (volOf (lst s) nt = none) := hno
    generalize strOfNums x.nm = xs at *
    clear hr hxo hf hn hx hi hgd hno
    have k2 : Keep (fun _ => False) w1 (w1.alloc (.cells #[.string xs, .int .i64 (f : Int), .int .i64 (n : Int)] 53)) := (Keep.refl _ _).alloc _
    have bl0 : Blk (w1.alloc (.cells #[.string xs, .int .i64 (f : Int), .int .i64 (n : Int)] 53)) w1.heap.size 3 (fun j => if j = 0 then .string xs else if j = 1 then .int .i64 (f : Int) else .int .i64 (n : Int)) := blk_alloc w1 _ 53 3 _ (by intro k hk; rcases (by omega : k = 0 ∨ k = 1 ∨ k = 2) with rfl | rfl | rfl <;> rfl)
    have hgv : RowKit.Hid (w1.heap.size ≠ q ∧ w1.heap.size ≠ g) := ⟨by have := H1.out.vst.blk.lt (by omega); omega, by have := H1.out.arr.blk.lt H1.out.arr.pos; omega⟩
    have H2 : RowKit.Hid (Sv (w1.alloc (.cells #[.string xs, .int .i64 (f : Int), .int .i64 (n : Int)] 53)) q p g cap N l s) := H1.out.keep k2 (fun e => e) (fun e => e) (fun e => e)
    have K2 : RowKit.Hid (Keep (fun k => k = q ∨ k = g) w (w1.alloc (.cells #[.string xs, .int .i64 (f : Int), .int .i64 (n : Int)] 53))) := K1.out.trans (k2.mono (fun _ _ e => e.elim))
    have bl : RowKit.Hid (Blk (w1.alloc (.cells #[.string xs, .int .i64 (f : Int), .int .i64 (n : Int)] 53)) w1.heap.size 3 (fun j => if j = 0 then .string xs else if j = 1 then .int .i64 (f : Int) else .int .i64 (n : Int))) := bl0
    clear k2 H1 K1 bl0
    go_upto_region 5 with (guard_target =~ wpList _ _ _ (Oper.mk _ (Op.load 53 _) _ _ _ _ :: _) _ _; refine wpList_load_run (by rfl) 53 (.tmp 28) rfl (by rfl) hld ?_)
    clear hld
    generalize w1.alloc (.cells #[.string xs, .int .i64 (f : Int), .int .i64 (n : Int)] 53) = w2 at *
    generalize w1.heap.size = gv at *
    have c2 : w2.cell? ⟨gv, 2, none⟩ = some (.int .i64 (n : Int)) := (bl.out 2 (by omega)).1
    have hpl := place_any H2.out.vst D0.out.sp (n := n) ⟨hfn.out.1, hfn.out.2.1⟩
    rcases hro with ⟨hr, -⟩ | ⟨a, j, hr, hj8, -, -, hft, -⟩
    · have e1 : RowKit.Hid (R = ⟨l, s, 5⟩) := by show _ = _; rw [hr'.out, hr]
      rw [hr] at hpl
      clear hr hr' hgd' hno' hN
      go_wp2_with fail
      refine hpl.mono ?_
      rintro e w3 ⟨a, b, rfl, -, k3⟩
      have H3 : RowKit.Hid (Sv w3 q p g cap N l s) := H2.out.keep k3 (fun e => e) (fun e => e) (fun e => e)
      have K3 : RowKit.Hid (Keep (fun k => k = q ∨ k = g) w w3) := K2.out.trans (k3.mono (fun _ _ e => e.elim))
      clear hpl k3 H2 K2 c2 bl
      go_wp2_with fail
      go_ret
      exact ⟨by rw [e1.out]; rfl, ⟨by rw [e1.out]; exact H3.out, by rw [e1.out]; exact D0.out⟩, K3.out⟩
    · have e1 : RowKit.Hid (R = ⟨wrL (wrL l a n (rdL l f n)) j 1 (bytesE (nums nt) a n), upd s j (some ⟨nums nt, a, n, j⟩), 0⟩) := by show _ = _; rw [hr'.out, hr]; rfl
      have hsp : RowKit.Hid (Sp N (upd s j (some ⟨nums nt, (a : Int), (n : Int), (j : Int)⟩))) := D0.out.sp.add hgd'.out hno'.out hfn.out.1 hj8 hft
      have hok : RowKit.Hid ((⟨nums nt, (a : Int), (n : Int), (j : Int)⟩ : En).Ok N) := (hsp.out.ok j _ hj8 (by unfold upd; rw [if_pos rfl])).1
      have hft' : RowKit.Hid (a + n ≤ N) := hft.2.1
      have hj' : RowKit.Hid (j < 8) := hj8
      rw [hr] at hpl
      have hr2 : RowKit.Hid (roomL N (lst s) n = some (a, (j : Int))) := hr
      clear hr hr' hft hj8 hgd' hno'
      go_wp2_with fail
      refine hpl.mono ?_
      rintro e w3 ⟨a', b', rfl, hab, k3⟩
      obtain ⟨rfl, rfl⟩ := hab a (j : Int) rfl
      have H3 : RowKit.Hid (Sv w3 q p g cap N l s) := H2.out.keep k3 (fun e => e) (fun e => e) (fun e => e)
      have K3 : RowKit.Hid (Keep (fun k => k = q ∨ k = g) w w3) := K2.out.trans (k3.mono (fun _ _ e => e.elim))
      have B3 : RowKit.Hid (Blk w3 gv 3 (fun j => if j = 0 then .string xs else if j = 1 then .int .i64 (f : Int) else .int .i64 (n : Int))) := bl.out.keep k3 (fun e => e)
      clear hpl k3 H2 K2 hab bl c2
      have hz : RowKit.Hid (∀ w', Keep (fun k => k = g) w3 w' → w'.cell? ⟨q, 0, none⟩ = some (dk p)) := fun w' k => ((H3.out.vst.keep k H3.out.qg).blk 0 (by omega)).1
      have hzv : RowKit.Hid (∀ w', Keep (fun k => k = g) w3 w' → w'.cell? ⟨gv, 1, none⟩ = some (.int .i64 (f : Int)) ∧ w'.cell? ⟨gv, 2, none⟩ = some (.int .i64 (n : Int))) := fun w' k => ⟨((B3.out.keep k hgv.out.2) 1 (by omega)).1, ((B3.out.keep k hgv.out.2) 2 (by omega)).1⟩
      have hcp : RowKit.Hid (Calls Tryz.prog 54 #[dk p, dk p, .int .i64 (f : Int), .int .i64 (n : Int), .int .i64 (a : Int)] w3.drew fun e w' => e = .returned (.int .i64 0) ∧ Arr w' p g cap (wrL l a n (rdL l f n)) ∧ Keep (fun k => k = g) w3.drew w') := dcopy_any (w := w3.drew) (H3.out.arr.keep ((Keep.refl (fun _ => False) w3).drew) (fun e => e) (fun e => e)) H3.out.len hN.out.2 hfn.out.1 hfn.out.2.2 hft'.out
      have D1 : RowKit.Hid (Ds N (wrL l a n (rdL l f n)) s) := D0.out.wr D0.out.sp hft'.out (rdL_b8 D0.out.b8)
      obtain ⟨l1, hl1⟩ : ∃ l1, RowKit.Hid (l1 = wrL l a n (rdL l f n)) := ⟨_, rfl⟩
      rw [← hl1.out] at hcp D1 e1
      clear hl1 D0
      go_upto_region 8 with fail
      refine wp_region_noPanic ?_
      refine wp_region_held_drew (S := fun w' => Keep (fun k => k = g) w3 w') (by kernel_rfl) ((Keep.refl (fun k => k = g) _).drew) (fun hH0 => ?_)
      refine tk 0 hH0 ?_
      refine tk 1 hH0 ?_
      refine tk 2 hH0 ?_
      refine tk 3 hH0 ?_ (hy := Or.inl ⟨by rfl, by intro w' hSw; have z1 := hz.out w' hSw; clear hSw; go_simp; try with_reducible rfl⟩)
      refine tk 4 hH0 ?_
      refine tk 5 hH0 ?_
      refine tk 6 hH0 ?_
      refine tk 7 hH0 ?_ (hy := Or.inl ⟨by rfl, by intro w' hSw; have z1 := hz.out w' hSw; clear hSw; go_simp; try with_reducible rfl⟩)
      refine tk 8 hH0 ?_
      refine tk 9 hH0 ?_ (hy := Or.inl ⟨by rfl, by intro w' hSw; have z1 := (hzv.out w' hSw).1; clear hSw; go_simp; try with_reducible rfl⟩)
      refine tk 10 hH0 ?_
      refine tk 11 hH0 ?_ (hy := Or.inl ⟨by rfl, by intro w' hSw; have z1 := (hzv.out w' hSw).2; clear hSw; go_simp; try with_reducible rfl⟩)
      refine tk 12 hH0 ?_
      refine rd 13 (fun K hK => ?_)
      refine step_call_want (vs := #[dk p, dk p, .int .i64 (f : Int), .int .i64 (n : Int), .int .i64 (a : Int)]) (R := fun v wz => v = .int .i64 0 ∧ Arr wz p g cap l1 ∧ Keep (fun k => k = g) w3.drew wz) (by rfl) 54 _ _ rfl (by simp [Act.eval]) gcallCopy (hcp.out.mono (by rintro e wz ⟨rfl, a, k⟩; exact ⟨_, rfl, rfl, a, k⟩)) ?_
      rintro v w4 ⟨rfl, a4, k4⟩
      have A4 : RowKit.Hid (Arr w4 p g cap l1) := a4
      have K4 : RowKit.Hid (Keep (fun k => k = g) w3 w4) := ((Keep.refl (fun k => k = g) _).drew).trans k4
      clear a4 k4
      refine hK.out _ _ (K4.out) (fun hH1 => ?_)
      clear hK K
      simp only [Act.put, List.setIfInBounds_toArray, List.set_cons_zero, List.set_cons_succ]
      refine tk 14 hH1 ?_
      refine wpAnyH_done (by kernel_rfl) ?_ _
      refine NoPanic.normal ?_
      have H4 : RowKit.Hid (Sv w4 q p g cap N l1 s) := H3.out.wrote A4.out D1.out.len K4.out
      have c4 : w4.cell? ⟨gv, 2, none⟩ = some (.int .i64 (n : Int)) := (hzv.out w4 K4.out).2
      have K5 : RowKit.Hid (Keep (fun k => k = q ∨ k = g) w w4) := K3.out.trans (K4.out.mono (fun _ _ e => Or.inr e))
      have hen := enter_str H4.out hj'.out hok.out
      have D2 : RowKit.Hid (Ds N (wrL l1 j 1 (bytesE (nums nt) a n)) (upd s j (some ⟨nums nt, (a : Int), (n : Int), (j : Int)⟩))) := D1.out.wr hsp.out (by have := hN.out; have := hj'.out; omega) (bytesE_b8 (nums_b8 nt) _ _)
      obtain ⟨l2, hl2⟩ : ∃ l2, RowKit.Hid (l2 = wrL l1 j 1 (bytesE (nums nt) a n)) := ⟨_, rfl⟩
      rw [← hl2.out] at hen D2 e1
      clear hl2 hsp hz hzv hcp H3 K3 B3 A4 K4 hH0 hH1 H4
      go_wp2_with fail
      refine hen.mono ?_
      rintro e w6 ⟨rfl, s6, k6⟩
      have H6 : RowKit.Hid (Sv w6 q p g cap N l2 (upd s j (some ⟨nums nt, (a : Int), (n : Int), (j : Int)⟩))) := s6
      have K6 : RowKit.Hid (Keep (fun k => k = q ∨ k = g) w w6) := K5.out.trans k6
      clear hen s6 k6 K5 c4
      go_wp2_with fail
      go_ret
      exact ⟨by rw [e1.out]; rfl, ⟨by rw [e1.out]; exact H6.out, by rw [e1.out]; exact D2.out⟩, K6.out⟩
end Tg
end Go.Proofs.YtjgnajopomadpaaGreat
namespace Go.Proofs.YtjgnajopomadpaaGreat
open Go.ChangeShapes Go.WideShapes Go.ChangeAt Go.RowKit
namespace Tg
open Qm Crc
/-- The places of the volumes that the first sectors tell. -/
def plK (N : Int) (l : List Int) (k i : Nat) : Option En := (volK N l k).find? (fun e => decide (e.i = (i : Int)))
theorem plK_8 (N : Int) (l : List Int) : plK N l 8 = plc N l := rfl
theorem plK_0 (N : Int) (l : List Int) : plK N l 0 = fun _ => none := rfl
theorem plK_mem {N : Int} {l : List Int} {k i : Nat} {e : En} (h : plK N l k i = some e) : e ∈ volK N l k ∧ e.i = i := ⟨List.mem_of_find?_eq_some h, by simpa using List.find?_some h⟩
theorem plK_of {N : Int} {l : List Int} {k : Nat} {e : En} (h : e ∈ volK N l k) : ∃ i, i < k ∧ plK N l k i = some e := by
  rw [← plcK k] at h
  obtain ⟨i, hi, he⟩ := List.mem_filterMap.1 h
  exact ⟨i, List.mem_range.1 hi, he⟩
theorem plK_ok {N : Nat} {l : List Int} (hb : B8 l) (hl : l.length = N * 32) (hN : 8 ≤ N) {k : Nat} (hk : k ≤ 8) (i : Nat) (e : En) (_ : i < 8) (h : plK N l k i = some e) : e.Ok N := by
  obtain ⟨j, hj, -, he⟩ := volK_i k e (plK_mem h).1
  exact entL_ok hb hl (by omega) (by omega) he
theorem plK_none {N : Int} {l : List Int} {k : Nat} (h : entL N l k = none) : plK N l (k + 1) = plK N l k := by
  funext i
  unfold plK
  rw [show volK N l (k + 1) = vstep (entL N l k) (volK N l k) from rfl, h]
  rfl
theorem plK_some {N : Int} {l : List Int} {k : Nat} {x : En} (h : entL N l k = some x) : plK N l (k + 1) = if (volK N l k).all (fun a => apart a x) then upd (plK N l k) k (some x) else plK N l k := by
  have hv : volK N l (k + 1) = if (volK N l k).all (fun a => apart a x) then volK N l k ++ [x] else volK N l k := by rw [show volK N l (k + 1) = vstep (entL N l k) (volK N l k) from rfl, h]; rfl
  funext i
  by_cases c : (volK N l k).all (fun a => apart a x) = true
  · rw [if_pos c] at hv ⊢
    have hxi := ent_i h
    unfold upd
    show (volK N l (k + 1)).find? _ = _
    rw [hv, List.find?_append]
    by_cases hik : i = k
    · rw [if_pos hik]
      have hk : (volK N l k).find? (fun e => decide (e.i = (i : Int))) = none := List.find?_eq_none.2 (fun e he hc => by
        obtain ⟨j, h1, h2, -⟩ := volK_i k e he
        have : e.i = i := by simpa using hc
        omega)
      rw [hk, Option.none_or, List.find?_cons_of_pos (by simp [hxi, hik])]
    · rw [if_neg hik, List.find?_cons_of_neg (by simp [hxi]; omega)]
      show ((volK N l k).find? _).or none = _
      rw [Option.or_none]
      rfl
  · rw [if_neg c] at hv ⊢
    show (volK N l (k + 1)).find? _ = _
    rw [hv]
    rfl
theorem goB_iff {N : Nat} {s : Nat → Option En} (hs : ∀ i e, i < 8 → s i = some e → e.Ok N) (x : En) : goB s x = true ↔ ∀ i e, i < 8 → s i = some e → apart e x = true := by
  have key : ∀ e : En, apart e x = true ↔ ¬ strOfNums e.nm = strOfNums x.nm ∧ (e.f + e.n ≤ x.f ∨ x.f + x.n ≤ e.f) := fun e => by
    unfold apart
    simp only [Bool.and_eq_true, Bool.or_eq_true, decide_eq_true_eq]
  unfold goB
  rw [Bool.and_eq_true, decide_eq_true_eq, decide_eq_true_eq]
  constructor
  · rintro ⟨h1, h2⟩ i e hi he
    rw [key]
    constructor
    · intro hc
      rcases feF_or (fun i => !hitB s (strOfNums x.nm) i) 8 (Nat.le_refl _) with ⟨-, h⟩ | ⟨j, h3, -⟩
      · have := h i (by omega) hi
        rw [(hit_iff hs hi).2 ⟨e, he, hc⟩] at this
        cases this
      · omega
    · rcases meet_or hs x.f x.n with ⟨-, h⟩ | ⟨j, y, h3, -⟩
      · have := h i e hi he
        omega
      · omega
  · intro h
    constructor
    · rcases feF_or (fun i => !hitB s (strOfNums x.nm) i) 8 (Nat.le_refl _) with ⟨h1, -⟩ | ⟨j, h1, -, h3, h4, -⟩
      · omega
      · have h4 : hitB s (strOfNums x.nm) j = true := by simpa using h4
        obtain ⟨y, hy, hn⟩ := (hit_iff hs h3).1 h4
        exact absurd hn ((key y).1 (h j y h3 hy)).1
    · rcases meet_or hs x.f x.n with ⟨h1, -⟩ | ⟨j, y, h1, hj, hy, h3, h4⟩
      · omega
      · have := ((key y).1 (h j y hj hy)).2
        omega
/-- Entry k read: the places behind it. -/
theorem plK_go {N : Nat} {l : List Int} (hb : B8 l) (hl : l.length = N * 32) (hN : 8 ≤ N) {k : Nat} (hk : k < 8) {x : En} (h : entL N l k = some x) : plK N l (k + 1) = if goB (plK N l k) x then upd (plK N l k) k (some x) else plK N l k := by
  rw [plK_some h]
  have : ((volK N l k).all (fun a => apart a x)) = goB (plK N l k) x := by
    rw [Bool.eq_iff_iff, goB_iff (N := N) (fun i e hi he => plK_ok hb hl hN (by omega) i e hi he), List.all_eq_true]
    constructor
    · intro hA i e _ he
      exact hA e (plK_mem he).1
    · intro hA e he
      obtain ⟨i, hi, h2⟩ := plK_of he
      exact hA i e (by omega) h2
  rw [this]
theorem sec_cut {l : List Int} {i : Nat} (hi : i < 8) : (strOfNums (rdL l 0 8)).extract (i * 32) ((i + 1) * 32) = strOfNums (rdL l i 1) := by
  rw [str_extract]
  congr 1
  unfold rdL
  rw [Nat.zero_mul, List.drop_zero, List.take_take, Nat.min_eq_left (by omega)]
set_option maxRecDepth 100000 in
set_option maxHeartbeats 1000000 in
theorem open_no {w : World} {p g cap N : Nat} {l : List Int} (h : Arr w p g cap l) (hl : l.length = N * 32) (h8 : N ≤ 8) : Calls Tryz.prog 10 #[dk p] w fun e w' => e = .returned (.tuple #[.pointer none, .int .i64 1]) ∧ Keep (fun _ => False) w w' := by
  have hs := sectors_any h hl (by omega)
  have hc : (N : Int) ≤ 8 := by omega
  clear h hl h8
  go_enter Tryz.func10, Tryz.ntmps10
  go_wp2_with fail
  refine hs.mono ?_
  rintro e w1 ⟨rfl, ez⟩
  have ez := ez.symm
  subst ez
  clear hs
  go_wp2_with fail
  exact bodyPost_ret (results_tmp2 rfl _ _ _) rfl ⟨rfl, Keep.refl _ _⟩
set_option maxRecDepth 100000 in
set_option maxHeartbeats 1000000 in
theorem open_yes {w : World} {p g cap N : Nat} {l : List Int} (h : Arr w p g cap l) (hl : l.length = N * 32) (h9 : 9 ≤ N) (h5 : N ≤ 512) : Calls Tryz.prog 10 #[dk p] w fun e w' => ∃ q, e = .returned (.tuple #[Ptr q, .int .i64 0]) ∧ w.heap.size ≤ q ∧ Vst w' q p N (plc N l) ∧ Keep (fun _ => False) w w' := by
  have hs := sectors_any h hl h5
  have hc : ¬ (N : Int) ≤ 8 := by omega
  have hI := invRead p 0 8 w
  have hrd := read_yes h hl h5 (lba := 0) (n := 8) (okR_nat (by omega) (by omega))
  have hb : RowKit.Hid (B8 l ∧ l.length = N * 32 ∧ 9 ≤ N ∧ N ≤ 512) := ⟨h.b8, hl, h9, h5⟩
  obtain ⟨T, hT⟩ : ∃ T, RowKit.Hid (T = strOfNums (rdL l 0 8)) := ⟨_, rfl⟩
  rw [← hT.out] at hrd
  clear h hl h9 h5
  go_enter Tryz.func10, Tryz.ntmps10
  go_wp2_with fail
  refine hs.mono ?_
  rintro e w1 ⟨rfl, ez⟩
  have ez := ez.symm
  subst ez
  clear hs
  go_wp2_with fail
  refine hrd.mono ?_
  rintro e w1 ⟨rfl, ez⟩
  have ez := ez.symm
  subst ez
  clear hrd hI hc
  have B0 : RowKit.Hid (Blk (w.alloc (.cells #[dk p, .int .i64 (N : Int), .string ⟨#[]⟩, .int .i64 0, .int .i64 0, .string ⟨#[]⟩, .int .i64 0, .int .i64 0, .string ⟨#[]⟩, .int .i64 0, .int .i64 0, .string ⟨#[]⟩, .int .i64 0, .int .i64 0, .string ⟨#[]⟩, .int .i64 0, .int .i64 0, .string ⟨#[]⟩, .int .i64 0, .int .i64 0, .string ⟨#[]⟩, .int .i64 0, .int .i64 0, .string ⟨#[]⟩, .int .i64 0, .int .i64 0] 69)) w.heap.size 26 (stC p N (plK N l 0))) := by
    refine blk_alloc w _ 69 26 _ ?_
    intro k hk
    rcases (by omega : k = 0 ∨ k = 1 ∨ k = 2 ∨ k = 3 ∨ k = 4 ∨ k = 5 ∨ k = 6 ∨ k = 7 ∨ k = 8 ∨ k = 9 ∨ k = 10 ∨ k = 11 ∨ k = 12 ∨ k = 13 ∨ k = 14 ∨ k = 15 ∨ k = 16 ∨ k = 17 ∨ k = 18 ∨ k = 19 ∨ k = 20 ∨ k = 21 ∨ k = 22 ∨ k = 23 ∨ k = 24 ∨ k = 25) with rfl | rfl | rfl | rfl | rfl | rfl | rfl | rfl | rfl | rfl | rfl | rfl | rfl | rfl | rfl | rfl | rfl | rfl | rfl | rfl | rfl | rfl | rfl | rfl | rfl | rfl <;> rfl
  have K0 : RowKit.Hid (Keep (fun _ => False) w (w.alloc (.cells #[dk p, .int .i64 (N : Int), .string ⟨#[]⟩, .int .i64 0, .int .i64 0, .string ⟨#[]⟩, .int .i64 0, .int .i64 0, .string ⟨#[]⟩, .int .i64 0, .int .i64 0, .string ⟨#[]⟩, .int .i64 0, .int .i64 0, .string ⟨#[]⟩, .int .i64 0, .int .i64 0, .string ⟨#[]⟩, .int .i64 0, .int .i64 0, .string ⟨#[]⟩, .int .i64 0, .int .i64 0, .string ⟨#[]⟩, .int .i64 0, .int .i64 0] 69))) := (Keep.refl _ _).alloc _
  go_upto_region 8 with fail
  generalize w.alloc (.cells #[dk p, .int .i64 (N : Int), .string ⟨#[]⟩, .int .i64 0, .int .i64 0, .string ⟨#[]⟩, .int .i64 0, .int .i64 0, .string ⟨#[]⟩, .int .i64 0, .int .i64 0, .string ⟨#[]⟩, .int .i64 0, .int .i64 0, .string ⟨#[]⟩, .int .i64 0, .int .i64 0, .string ⟨#[]⟩, .int .i64 0, .int .i64 0, .string ⟨#[]⟩, .int .i64 0, .int .i64 0, .string ⟨#[]⟩, .int .i64 0, .int .i64 0] 69) = w1 at *
  obtain ⟨q, hqq⟩ : ∃ q, q = w.heap.size := ⟨_, rfl⟩
  rw [← hqq] at B0 ⊢
  have hq : RowKit.Hid (w.heap.size ≤ q) := by show _ ≤ _; omega
  clear hqq
  go_wp2_with fail
  go_loopw [27] (fun v wx => ∃ i : Nat, v = .int .i64 (i : Int) ∧ RowKit.Hid (i ≤ 8) ∧ RowKit.Hid (Blk wx q 26 (stC p N (plK N l i))) ∧ RowKit.Hid (Keep (fun _ => False) w wx)) (fun v _ => 8 - (intOf v).toNat)
  case atStart => exact ⟨0, rfl, Nat.zero_le _, B0, K0⟩
  case round =>
    clear B0 K0
    obtain ⟨i, rfl, hi, hB, hK⟩ := hrel
    by_cases hin : i = 8
    · subst hin
      have hge : ¬ ((8 : Nat) : Int) < 8 := by omega
      have hV : RowKit.Hid (Vst wr q p N (plc N l)) := ⟨hB.out, hb.out.2.2, fun i e hi he => plK_ok hb.out.1 hb.out.2.1 (by have := hb.out; omega) (Nat.le_refl 8) i e hi he⟩
      clear hB hi hb hT
      go_wp2_with fail
      exact bodyPost_ret (results_tmp2 rfl _ _ _) rfl ⟨q, rfl, hq.out, hV.out, hK.out⟩
    · have hlt : (i : Int) < 8 := by have := hi.out; omega
      have hi8 : i < 8 := by have := hi.out; omega
      have hi8' : RowKit.Hid (i < 8) := hi8
      have hw : IntKind.i64.wrap ((i : Int) + 1) = ((i + 1 : Nat) : Int) := by rw [show (i : Int) + 1 = ((i + 1 : Nat) : Int) by omega]; exact wrapI (by omega) (by omega)
      have hsec := sector_any (s := T) (by rw [hT.out, strOfNums_size, rdL_len (by have := hb.out; omega)]) hi8 wr
      rw [hT.out, sec_cut hi8, ← hT.out] at hsec
      have hpa := parse_any (b := rdL l i 1) (rdL_b8 hb.out.1) (rdL_len (by have := hb.out; omega)) (N := N) hb.out.2.2.2 (i : Int) wr
      rw [show entV N (rdL l i 1) (i : Int) = entL N l i from rfl] at hpa
      have hV : RowKit.Hid (Vst wr q p N (plK N l i)) := ⟨hB.out, hb.out.2.2, fun j e hj he => plK_ok hb.out.1 hb.out.2.1 (by have := hb.out; omega) hi.out j e hj he⟩
      generalize strOfNums (rdL l i 1) = S at *
      clear hB hi hin
      cases hE : entL N l i with
      | none =>
        have hP : RowKit.Hid (plK N l (i + 1) = plK N l i) := plK_none hE
        rw [hE] at hpa
        clear hE
        have hpa : Calls Tryz.prog 30 #[.string S, .int .i64 (N : Int)] wr fun e w' => e = .returned (.tuple #[.agg #[.string ⟨#[]⟩, .int .i64 0, .int .i64 0], .bool false]) ∧ Keep (fun _ => False) wr w' := hpa
        go_wp2_with fail
        refine hsec.mono ?_
        rintro e w1 ⟨rfl, ez⟩
        have ez := ez.symm
        subst ez
        clear hsec
        go_wp2_with fail
        refine hpa.mono ?_
        rintro e w2 ⟨rfl, k2⟩
        have K3 : RowKit.Hid (Keep (fun _ => False) w (w2.alloc (.cells #[.string ⟨#[]⟩, .int .i64 0, .int .i64 0] 53))) := (hK.out.trans k2).alloc _
        have V3 : RowKit.Hid (Vst (w2.alloc (.cells #[.string ⟨#[]⟩, .int .i64 0, .int .i64 0] 53)) q p N (plK N l (i + 1))) := by
          rw [hP.out]
          exact (hV.out.keep k2 (fun e => e)).keep ((Keep.refl (fun _ => False) _).alloc _) (fun e => e)
        clear hpa k2 hV hK hP hT hb
        go_upto_region 12 with fail
        generalize w2.alloc (.cells #[.string ⟨#[]⟩, .int .i64 0, .int .i64 0] 53) = w3 at *
        go_wp2_with fail
        go_roundw
        case rel => exact ⟨i + 1, rfl, hi8'.out, V3.out.blk, K3⟩
        case measure => simp [intOf]; omega
      | some x =>
        have hP : RowKit.Hid (plK N l (i + 1) = if goB (plK N l i) x then upd (plK N l i) i (some x) else plK N l i) := plK_go hb.out.1 hb.out.2.1 (by have := hb.out; omega) hi8 hE
        have hxo : RowKit.Hid (x.Ok N) := entL_ok hb.out.1 hb.out.2.1 (by have := hb.out; omega) (by omega) hE
        rw [hE] at hpa
        clear hE
        have hpa : Calls Tryz.prog 30 #[.string S, .int .i64 (N : Int)] wr fun e w' => e = .returned (.tuple #[.agg #[.string (strOfNums x.nm), .int .i64 x.f, .int .i64 x.n], .bool true]) ∧ Keep (fun _ => False) wr w' := hpa
        go_wp2_with fail
        refine hsec.mono ?_
        rintro e w1 ⟨rfl, ez⟩
        have ez := ez.symm
        subst ez
        clear hsec
        go_wp2_with fail
        refine hpa.mono ?_
        rintro e w2 ⟨rfl, k2⟩
        have K3 : RowKit.Hid (Keep (fun _ => False) w (w2.alloc (.cells #[.string (strOfNums x.nm), .int .i64 x.f, .int .i64 x.n] 53))) := (hK.out.trans k2).alloc _
        have V3 : RowKit.Hid (Vst (w2.alloc (.cells #[.string (strOfNums x.nm), .int .i64 x.f, .int .i64 x.n] 53)) q p N (plK N l i)) := (hV.out.keep k2 (fun e => e)).keep ((Keep.refl (fun _ => False) _).alloc _) (fun e => e)
        have L3 : RowKit.Hid (Blk (w2.alloc (.cells #[.string (strOfNums x.nm), .int .i64 x.f, .int .i64 x.n] 53)) w2.heap.size 3 (trC x)) := blk_alloc w2 _ 53 3 _ (by intro k hk; rcases (by omega : k = 0 ∨ k = 1 ∨ k = 2) with rfl | rfl | rfl <;> rfl)
        have hgq : RowKit.Hid (w2.heap.size ≠ q) := by have := (hV.out.keep k2 (fun e => e)).blk.lt (by omega); show _ ≠ _; omega
        clear hpa k2 hV hK hT
        go_upto_region 12 with fail
        generalize w2.alloc (.cells #[.string (strOfNums x.nm), .int .i64 x.f, .int .i64 x.n] 53) = w3 at *
        generalize w2.heap.size = gv at *
        have hld := load53 L3.out
        have hgo := goes_any V3.out x (by have := hxo.out.f; have := hxo.out.fn; have := hxo.out.n; have := hb.out; omega) (by have := hxo.out.f; have := hxo.out.fn; have := hxo.out.n; have := hb.out; omega)
        obtain ⟨G, hG⟩ : ∃ G, RowKit.Hid (G = goB (plK N l i) x) := ⟨_, rfl⟩
        rw [← hG.out] at hgo hP
        clear hG
        go_wp2_with (guard_target =~ wpList _ _ _ (Oper.mk _ (Op.load 53 _) _ _ _ _ :: _) _ _; refine wpList_load_run (by rfl) 53 (.tmp 9) rfl (by rfl) hld ?_)
        refine hgo.mono ?_
        rintro e w4 ⟨rfl, k4⟩
        have V4 : RowKit.Hid (Vst w4 q p N (plK N l i)) := V3.out.keep k4 (fun e => e)
        have K4 : RowKit.Hid (Keep (fun _ => False) w w4) := K3.out.trans k4
        have L4 : RowKit.Hid (Blk w4 gv 3 (trC x)) := L3.out.keep k4 (fun e => e)
        clear hgo hld k4 V3 K3 L3
        cases G with
        | false =>
          have hP2 : RowKit.Hid (plK N l (i + 1) = plK N l i) := hP.out
          have V5 : RowKit.Hid (Vst w4 q p N (plK N l (i + 1))) := by rw [hP2.out]; exact V4.out
          clear hP hP2 V4 L4 hb
          go_wp2_with fail
          go_roundw
          case rel => exact ⟨i + 1, rfl, hi8'.out, V5.out.blk, K4⟩
          case measure => simp [intOf]; omega
        | true =>
          have hP2 : RowKit.Hid (plK N l (i + 1) = upd (plK N l i) i (some x)) := hP.out
          have hbl : RowKit.Hid (∀ w', Keep (fun k => k = q) w4 w' → Blk w' gv 3 (trC x)) := fun w' k => L4.out.keep k hgq.out
          have hput : RowKit.Hid (∃ wp, (Instr.storeAt 53 (.pointer (some ⟨q, 2 + i * 3, none⟩)) (.agg (trA x))).run Tryz.prog w4.drew = .ok () wp ∧ Blk wp q 26 (stC p N (plK N l (i + 1))) ∧ Keep (fun k => k = q) w4.drew wp) := by
            rw [hP2.out]
            exact stC_put (V4.out.blk.keep ((Keep.refl (fun _ => False) _).drew) (fun e => e)) hi8'.out (some x)
          have j0 : (0 : Int) ≤ (i : Int) := by omega
          clear hP hP2 V4 L4 hb hxo
          go_upto_region 13 with fail
          refine wp_region_noPanic ?_
          refine wp_region_held_drew (S := fun w' => Keep (fun k => k = q) w4 w') (by kernel_rfl) ((Keep.refl (fun k => k = q) _).drew) (fun hH0 => ?_)
          refine tk 0 hH0 ?_
          refine tk 1 hH0 ?_
          refine tk 2 (v := .agg (trA x)) hH0 ?_ (hy := yields_load (by rfl) 53 (.tmp 9) rfl (by rfl) (fun w' hSw => load53 (hbl.out w' hSw)))
          refine tk 3 hH0 ?_
          refine tk 4 hH0 ?_
          refine tk 5 hH0 ?_
          refine rd 6 (fun K hK => ?_)
          obtain ⟨wp, hrun, hbp, kp⟩ := hput.out
          refine step_store_run (by rfl) 53 (.tmp 49) (.tmp 46) rfl (by rfl) (by rfl) hrun ?_
          have KP : RowKit.Hid (Keep (fun k => k = q) w4 wp) := ((Keep.refl (fun k => k = q) _).drew).trans kp
          clear kp
          refine hK.out _ _ (KP.out) (fun hH1 => ?_)
          clear hK K
          simp only [Act.put]
          refine wpAnyH_done (by kernel_rfl) ?_ _
          refine NoPanic.normal ?_
          have K5 : RowKit.Hid (Keep (fun _ => False) w wp) := K4.out.next KP.out (fun x hx e => by have := hq.out; omega)
          have B5 : RowKit.Hid (Blk wp q 26 (stC p N (plK N l (i + 1)))) := hbp
          clear hbl hput KP hbp hrun K4 hH0 hH1
          go_wp2_with fail
          go_roundw
          case rel => exact ⟨i + 1, rfl, hi8'.out, B5, K5⟩
          case measure => simp [intOf]; omega
end Tg
end Go.Proofs.YtjgnajopomadpaaGreat
namespace Go.Proofs.YtjgnajopomadpaaGreat
open Go.ChangeShapes Go.WideShapes Go.ChangeAt Go.RowKit
namespace Tg
open Qm Crc
/-- The landed store in memory, with the blocks that are its own and its disk's. -/
def SVl (S : Nat → Prop) (w : World) (q p N : Nat) (l : List Int) (s : Nat → Option En) : Prop :=
  ∃ g cap, Sv w q p g cap N l s ∧ Ds N l s ∧ ∀ k, S k ↔ k = q ∨ k = p ∨ k = g
theorem SVl.done {S : Nat → Prop} {w w' : World} {q p g cap N : Nat} {l' : List Int} {s' : Nat → Option En} (hS : ∀ k, S k ↔ k = q ∨ k = p ∨ k = g) (h : Sv w' q p g cap N l' s') (d : Ds N l' s') (k : Keep (fun k => k = q ∨ k = g) w w') :
    SVl S w' q p N l' s' ∧ Keep S w w' ∧ ∀ k, S k → S k ∨ w.heap.size ≤ k :=
  ⟨⟨g, cap, h, d, hS⟩, k.mono (fun x _ e => (hS x).2 (e.elim Or.inl (fun e => Or.inr (Or.inr e)))), fun _ e => Or.inl e⟩
theorem st_ok : StOk SVl where
  keep := by
    rintro S T w w' q p N l s ⟨g, cap, h, d, hS⟩ k hT
    exact ⟨g, cap, h.keep k (fun e => hT _ e ((hS _).2 (Or.inl rfl))) (fun e => hT _ e ((hS _).2 (Or.inr (Or.inl rfl)))) (fun e => hT _ e ((hS _).2 (Or.inr (Or.inr rfl)))), d, hS⟩
  lt := by
    rintro S w q p N l s ⟨g, cap, h, d, hS⟩ k hk
    rcases (hS k).1 hk with rfl | rfl | rfl
    · exact h.vst.blk.lt (by omega)
    · exact World.block_lt_of_cell? w _ h.arr.cell
    · exact h.arr.blk.lt h.arr.pos
  ds := by
    rintro S w q p N l s ⟨g, cap, h, d, hS⟩
    exact d
  arr := by
    rintro S w q p N l s ⟨g, cap, h, d, hS⟩
    exact ⟨g, cap, h.arr, (hS _).2 (Or.inr (Or.inl rfl)), (hS _).2 (Or.inr (Or.inr rfl))⟩
  open_no := fun h hl h8 => open_no h hl h8
  open_yes := by
    intro w p g cap N l h hl h9 h5
    refine (open_yes h hl h9 h5).mono ?_
    rintro e w' ⟨q, rfl, hq, hV, hk⟩
    have hp : p < w.heap.size := World.block_lt_of_cell? w _ h.cell
    have hg : g < w.heap.size := h.blk.lt h.pos
    refine ⟨q, fun k => k = q ∨ k = p ∨ k = g, rfl, ⟨g, cap, ⟨h.keep hk (fun e => e) (fun e => e), hV, by omega, by omega, hl⟩, ⟨plc_sp h.b8 hl (by omega), h.b8, hl, h9, h5⟩, fun k => Iff.rfl⟩, ?_, hk⟩
    rintro k (rfl | rfl | rfl)
    · exact Or.inr (Or.inr hq)
    · exact Or.inl rfl
    · exact Or.inr (Or.inl rfl)
  vols := by
    rintro S w q p N l s ⟨g, cap, h, d, hS⟩
    exact vols_any h.vst
  free := by
    rintro S w q p N l s ⟨g, cap, h, d, hS⟩
    exact free_any h.vst
  good := fun t ht w => good_any t ht w
  create := by
    rintro S w q p N l s nm n i1 i2 ⟨g, cap, h, d, hS⟩
    refine (create_any h d nm n i1 i2).mono ?_
    rintro e w' ⟨rfl, r, k⟩
    exact ⟨S, rfl, SVl.done hS r.sv r.ds k⟩
  delete := by
    rintro S w q p N l s nm i1 ⟨g, cap, h, d, hS⟩
    refine (delete_any h d nm).mono ?_
    rintro e w' ⟨rfl, r, k⟩
    exact ⟨S, rfl, SVl.done hS r.sv r.ds k⟩
  rename := by
    rintro S w q p N l s nm nt i1 i2 ⟨g, cap, h, d, hS⟩
    refine (rename_any h d nm nt i2).mono ?_
    rintro e w' ⟨rfl, r, k⟩
    exact ⟨S, rfl, SVl.done hS r.sv r.ds k⟩
  clone := by
    rintro S w q p N l s nm nt i1 i2 ⟨g, cap, h, d, hS⟩
    refine (clone_vol h d nm nt i2).mono ?_
    rintro e w' ⟨rfl, r, k⟩
    exact ⟨S, rfl, SVl.done hS r.sv r.ds k⟩
  write := by
    rintro S w q p N l s nm a n t i1 i2 i3 i4 ⟨g, cap, h, d, hS⟩
    refine (write_any h d nm a n i2 i3 t).mono ?_
    rintro e w' ⟨rfl, r, r2, k⟩
    exact ⟨S, rfl, SVl.done hS r r2 k⟩
  read := by
    rintro S w q p N l s nm a n i1 i2 i3 ⟨g, cap, h, d, hS⟩
    exact read_any h d nm a n i2 i3
end Tg
end Go.Proofs.YtjgnajopomadpaaGreat
