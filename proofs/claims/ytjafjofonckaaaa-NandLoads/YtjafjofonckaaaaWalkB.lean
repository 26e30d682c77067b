/-
  What the program's flash does where a block is left and where a page's chunks are written: any flash, any cut.
-/
import Derived.Test.YtjafjofonckaaaaWalkA
import Derived.Deep.RegionLaw
import Derived.BigQuiet
import Derived.BigRegion
namespace Go.Proofs.Ytjafjofonckaaaa
open Go.ChangeShapes Go.WideShapes Go.ChangeAt Go.RowKit
namespace Nd

theorem Mem.refill {w w1 : World} {p c k : Nat} {s : Fl} (h : Mem w p c k s) {o n : Nat} {x : Int}
    (hb : Blk w1 c (s.B * s.P * 68) (fun i => if o ≤ i ∧ i < o + n then .int .u8 x else .int .u8 (s.cell i))) (hk : Keep (fun b => b = c) w w1) :
    Mem w1 p c k { s with cell := fun i => if o ≤ i ∧ i < o + n then x else s.cell i } :=
  ⟨h.top.keep hk h.pc, hb.congr (fun i _ => by simp only []; split <;> simp_all), h.blk.keep hk (Ne.symm h.ck), h.pc, h.pk, h.ck⟩

theorem Fl.leave_eq (s : Fl) (b : Nat) (tn : Bool) (x : Int) (hx : x = if tn then 0 else 255) :
    s.leave b tn = { s with cell := fun i => if b * (s.P * 68) ≤ i ∧ i < b * (s.P * 68) + s.P * 68 then x else s.cell i, torn := fun y => if y = b then tn else s.torn y, next := fun y => if y = b then 0 else s.next y } := by
  have hs : (b + 1) * (s.P * 68) = b * (s.P * 68) + s.P * 68 := by rw [Nat.add_mul, Nat.one_mul]
  unfold Fl.leave; rw [hs, hx]

theorem leave_any {w : World} {p c k : Nat} {s : Fl} {N : Nat} (h : Mem w p c k s) (ok : s.Ok N) {b : Nat} (hb : b < s.B) (tn : Bool) :
    Calls Try.prog 40 #[.pointer (some ⟨p, 0, none⟩), .int .i64 b, .bool tn] w fun e w' => e = .returned (.tuple #[]) ∧ Mem w' p c k (s.leave b tn) ∧ Keep (Own p c k) w w' := by
  have b2 := ok.b2
  have p1 := ok.p1
  have p2 := ok.p2
  have hle : b * (s.P * 68) + s.P * 68 ≤ s.B * s.P * 68 := by
    have hs : (b + 1) * (s.P * 68) = b * (s.P * 68) + s.P * 68 := by rw [Nat.add_mul, Nat.one_mul]
    rw [← hs, Nat.mul_assoc]; exact Nat.mul_le_mul (by omega) (by omega)
  have hm : s.B * s.P ≤ 64 * 32 := Nat.mul_le_mul b2 p2
  have hcel := h.cel
  have H := h
  have hbc := blockCells_any h b2 p1 p2 hb
  have hN : s.B * s.P * 68 ≤ 139264 := by omega
  clear h
  cases tn
  · have he := Fl.leave_eq s b false 255 rfl
    rw [he]
    clear he
    go_enter Try.func40, Try.ntmps40
    go_wp2_with fail
    refine hbc.mono ?_
    rintro e w' ⟨⟨cap, rfl, hcap⟩, rfl⟩
    go_wp2_with fail
    refine (fill_any hcel _ _ _ hle hN 255).mono ?_
    rintro e w1 ⟨rfl, hb1, hk1⟩
    have M1 := H.refill hb1 hk1
    obtain ⟨t0, t1, t2, t3, t4, t5⟩ := M1.tops
    obtain ⟨b0, b1, b2', b3, g0, g1, g2, g3⟩ := M1.at hb
    have HM := (M1.setTorn b false).setNext b 0
    have HK : Keep (Own p c k) w' w1 := hk1.mono (fun x _ e => Or.inr (Or.inl e))
    clear M1 hb1 hk1 H hcel hbc
    go_wp2_with fail
    refine bodyPost_end (results_none rfl _ _ _) rfl ?_
    exact ⟨rfl, HM, (HK.k _ _).k _ _⟩
  · have he := Fl.leave_eq s b true 0 rfl
    rw [he]
    clear he
    go_enter Try.func40, Try.ntmps40
    go_wp2_with fail
    refine hbc.mono ?_
    rintro e w' ⟨⟨cap, rfl, hcap⟩, rfl⟩
    go_wp2_with fail
    refine (fill_any hcel _ _ _ hle hN 0).mono ?_
    rintro e w1 ⟨rfl, hb1, hk1⟩
    have M1 := H.refill hb1 hk1
    obtain ⟨t0, t1, t2, t3, t4, t5⟩ := M1.tops
    obtain ⟨b0, b1, b2', b3, g0, g1, g2, g3⟩ := M1.at hb
    have HM := (M1.setTorn b true).setNext b 0
    have HK : Keep (Own p c k) w' w1 := hk1.mono (fun x _ e => Or.inr (Or.inl e))
    clear M1 hb1 hk1 H hcel hbc
    go_wp2_with fail
    refine bodyPost_end (results_none rfl _ _ _) rfl ?_
    exact ⟨rfl, HM, (HK.k _ _).k _ _⟩

/-- A copy whose run is known, as one step of a region that draws. -/
theorem step_copy_run {P : Program} {ops : Array Oper} {o : Oper} {a : Act} {w : World} {K : Act → World → Prop} {Q : Exit → Act → World → Prop} {E : Prop}
    (hg : o.guard = none) (d s : Operand) (t : TypeId) (hop : o.op = Op.call { callee := Callee.builtin Builtin.copy, args := #[d, s], argTypes := #[t, t] })
    {v1 v2 v' : Value} {w' : World} (hd : a.eval d = v1) (hs : a.eval s = v2) (hrun : (Builtin.copy_ #[t, t] o.type #[v1, v2]).run P w = .ok v' w')
    (hK : K (a.put o.dst v') w') : if Region.wanted o (yielded ops a.tmps) = true then Oper.wp P o a w K Q else E := by
  have hw : Region.wanted o (yielded ops a.tmps) = true := by simp [Region.wanted, hg]
  rw [if_pos hw]
  unfold Oper.wp
  simp [execOp, hop, resolve, invoke, builtin, hd, hs, hrun, Result.andThen]
  exact hK

theorem size5 : (Try.prog.info? 5).map (·.size) = some 1 := by kernel_rfl

/-- Bytes are copied from one block into another. -/
theorem run_copy {w : World} {c g N M : Nat} {f f2 : Nat → Value} {dd : Nat → Int} (h : Blk w c N f) (h2 : Blk w g M f2) (o oo n : Nat) (hn : o + n ≤ N) (hm : oo + n ≤ M) (hd : ∀ i, i < M → f2 i = .int .u8 (dd i))
    (dLen dCap sLen sCap : Nat) (hl : Nat.min sLen dLen = n) :
    (Builtin.copy_ #[28, 28] 3 #[.slice (some ⟨c, o, none⟩) dLen dCap, .slice (some ⟨g, oo, none⟩) sLen sCap]).run Try.prog w = .ok (.int .i64 n) (w.setCells c o ((List.range n).map fun i => .int .u8 (dd (oo + i)))) := by
  have := run_copy_cells (P := Try.prog) w 28 28 3 5 c o dLen dCap ⟨g, oo, none⟩ sLen sCap ((List.range n).map fun i => .int .u8 (dd (oo + i))) Try.underlying28 size5 (by simp [hl])
    (fun j v hv => by
      have hj : j < n := by have := (List.getElem?_eq_some_iff.1 hv).1; simpa using this
      rw [Addr.add_lit, (h2 (oo + j) (by omega)).1, hd _ (by omega), ← hv]; simp [hj])
    (fun j hj => by simp at hj; rw [(h (o + j) (by omega)).1]; rfl) (fun j hj => by simp at hj; exact (h (o + j) (by omega)).2) (fun v hv => by simp at hv; obtain ⟨_, _, rfl⟩ := hv; rfl)
  rw [this]; simp [goInt]

theorem Fl.write_succ (t : Fl) (b j : Nat) (d : Nat → Int) (q n : Nat) (h : t.stepOk = true) : t.write b j d q (n + 1) = (t.step.chunk b j d q).write b j d (q + 1) n := by rw [Fl.write, if_pos h]
theorem Fl.write_stop (t : Fl) (b j : Nat) (d : Nat → Int) (q n : Nat) (h : t.stepOk = false) : t.write b j d q (n + 1) = (false, t.step) := by rw [Fl.write, if_neg (by simp [h])]

theorem Fl.chunk_eq (s : Fl) (b j pg : Nat) (hpg : pg = b * s.P + j) (d : Nat → Int) (q : Nat) : s.chunk b j d q =
    { s with cell := fun i => if pg * 68 + 4 * q ≤ i ∧ i < pg * 68 + 4 * q + 4 then d (4 * q + (i - (pg * 68 + 4 * q))) else s.cell i, next := fun x => if x = b then j + 1 else s.next x } := by
  subst hpg
  unfold Fl.chunk
  congr 1
  funext i
  split
  · congr 1; omega
  · rfl

theorem pg_div {P b j pg : Nat} (hj : j < P) (h : pg = b * P + j) : (pg : Int) / (P : Int) = (b : Int) ∧ (pg : Int) % (P : Int) = (j : Int) := by
  have h1 : pg / P = b := by rw [h, Nat.mul_comm, Nat.mul_add_div (by omega), Nat.div_eq_of_lt hj]; rfl
  have h2 : pg % P = j := by rw [h, Nat.mul_comm, Nat.mul_add_mod, Nat.mod_eq_of_lt hj]
  rw [← Int.natCast_ediv, ← Int.natCast_emod, h1, h2]; exact ⟨rfl, rfl⟩

/-- What a writing answers. -/
def wcode (b : Bool) : Int := if b then 0 else 7

/-- What writing has done by chunk q. -/
structure Wr (w : World) (p c k g : Nat) (s : Fl) (N b j : Nat) (d : Nat → Int) (n q : Nat) (wr : World) (t : Fl) : Prop where
  mem : Mem wr p c k t
  ok : t.Ok N
  on : t.on = true
  row : Blk wr g 68 (fun i => .int .u8 (d i))
  keep : Keep (Own p c k) w wr
  rest : s.write b j d 0 n = t.write b j d q (n - q)
  B : t.B = s.B
  P : t.P = s.P

theorem Wr.step {w : World} {p c k g : Nat} {s : Fl} {N b j : Nat} {d : Nat → Int} {n q : Nat} {wr w2 : World} {t : Fl} (h : Wr w p c k g s N b j d n q wr t) (hq : q < n) (hon : t.stepOk = true) {pg a : Nat} (hpg : pg = b * s.P + j) (ha : a = 4 * q)
    (hm : Mem w2 p c k { t.step with cell := fun i => if pg * 68 + a ≤ i ∧ i < pg * 68 + a + 4 then d (a + (i - (pg * 68 + a))) else t.step.cell i }) (hk : Keep (Own p c k) wr w2) (hg : ¬ Own p c k g) (hj : j < s.P) (hd : ∀ i, 0 ≤ d i ∧ d i ≤ 255) (v : Int) (hv : v = ((j + 1 : Nat) : Int)) :
    Wr w p c k g s N b j d n (q + 1) (w2.setCell ⟨k, b * 4 + 2, none⟩ (.int .i64 v)) (t.step.chunk b j d q) := by
  subst hv
  have hsB : t.step.B = s.B := by rw [Fl.step_B, h.B]
  have hsP : t.step.P = s.P := by rw [Fl.step_P, h.P]
  refine ⟨?_, h.ok.step.chunk (by rw [hsP]; exact hj) hd q, Fl.step_on hon h.on, ?_, ?_, ?_, hsB, hsP⟩
  · rw [Fl.chunk_eq t.step b j pg (by rw [hsP]; exact hpg) d q, ← ha]
    exact hm.setNext b (j + 1)
  · exact (h.row.keep hk hg).other (a := ⟨k, _, none⟩) (fun e => hg (Or.inr (Or.inr e))) _
  · exact (h.keep.trans hk).k _ _
  · rw [h.rest, show n - q = (n - (q + 1)) + 1 by omega, Fl.write_succ _ _ _ _ _ _ hon]

set_option maxHeartbeats 1000000 in
theorem write_any {w : World} {p c k g gc N : Nat} {s : Fl} {d : Nat → Int} (h : Mem w p c k s) (ok : s.Ok N) (hon : s.on = true) {b j pg n : Nat} (hb : b < s.B) (hj : j < s.P) (hpg : pg = b * s.P + j)
    (hd : ∀ i, 0 ≤ d i ∧ d i ≤ 255) (hr : Blk w g 68 (fun i => .int .u8 (d i))) (hg : ¬ Own p c k g) (hgc : 68 ≤ gc) (hgc' : gc ≤ 9223372036854775807) (hn : n ≤ 17) :
    Calls Try.prog 37 #[.pointer (some ⟨p, 0, none⟩), .int .i64 pg, .slice (some ⟨g, 0, none⟩) 68 gc, .int .i64 n] w
      fun e w' => e = .returned (.int .i64 (wcode (s.write b j d 0 n).1)) ∧ Mem w' p c k (s.write b j d 0 n).2 ∧ Keep (Own p c k) w w' := by
  have b2 := ok.b2
  have p1 := ok.p1
  have p2 := ok.p2
  have hbp : (b + 1) * s.P ≤ s.B * s.P := Nat.mul_le_mul (by omega) (Nat.le_refl _)
  rw [Nat.add_mul, Nat.one_mul] at hbp
  have hm : s.B * s.P ≤ 64 * 32 := Nat.mul_le_mul b2 p2
  have hpl : pg * 68 + 68 ≤ s.B * s.P * 68 := by omega
  obtain ⟨hdiv, hmod⟩ := pg_div hj hpg
  obtain ⟨t0, t1, t2, t3, t4, t5⟩ := h.tops
  have hN : s.B * s.P * 68 ≤ 139264 := by omega
  have hne : ¬ s.B * s.P * 68 = pg * 68 := by omega
  have HPG : Hid (pg = b * s.P + j) := hpg
  clear hpg hbp hm
  generalize hM : s.B * s.P * 68 = M at *
  go_enter Try.func37, Try.ntmps37
  go_wp2_with fail
  go_loopw [10] (fun i wr => ∃ (q a : Nat) (t : Fl), q ≤ n ∧ i = .int .i64 a ∧ Hid (a = 4 * q) ∧ Wr w p c k g s N b j d n q wr t) (fun i _ => 4 * n - (intOf i).toNat)
  case atStart => exact ⟨0, 0, s, by omega, rfl, rfl, h, ok, hon, hr, Keep.refl _ _, rfl, rfl, rfl⟩
  case round =>
    obtain ⟨q, a, t, hq, rfl, ha, hw⟩ := hrel
    have ha' := ha.out
    clear t0 t1 t2 t3 t4 t5
    by_cases hlt : q < n
    · have hst := step_any hw.mem hw.on hw.ok.cut
      have hal : (a : Int) < n * 4 := by omega
      have ham : a + 4 ≤ 68 := by omega
      cases hso : t.stepOk
      · rw [hso] at hst
        have HE : Hid (s.write b j d 0 n = (false, t.step)) := by
          show _ = _
          rw [hw.rest, show n - q = (n - (q + 1)) + 1 by omega, Fl.write_stop _ _ _ _ _ _ hso]
        have hK := hw.keep
        clear hw hr h ha'
        go_wp2_with fail
        refine hst.mono ?_
        rintro e w1 ⟨rfl, hm1, hk1⟩
        go_wp2_with fail
        go_ret
        rw [HE.out]
        exact ⟨rfl, hm1, hK.trans hk1⟩
      · rw [hso] at hst
        have hst' := hst
        clear hst
        have HW := fun w2 hm hk v hv => hw.step (w2 := w2) hlt hso HPG.out ha' hm hk hg hj hd v hv
        have hsB : t.step.B = s.B := by rw [Fl.step_B, hw.B]
        have hsP : t.step.P = s.P := by rw [Fl.step_P, hw.P]
        have hrow := fun w1 hk1 => hw.row.keep (w' := w1) hk1 hg
        clear hw hr h ha'
        go_wp2_with fail
        refine hst'.mono ?_
        rintro e w1 ⟨rfl, hm1, hk1⟩
        have hcel := hm1.cel
        have hrow := hrow w1 hk1
        obtain ⟨w2, hcp, hm2, hk2⟩ : ∃ w2, (Builtin.copy_ #[28, 28] 3 #[.slice (some ⟨c, pg * 68 + a, none⟩) (M - pg * 68 - a) (M - pg * 68 - a), .slice (some ⟨g, a, none⟩) 4 (gc - a)]).run Try.prog w1.drew = .ok (.int .i64 4) w2 ∧
            Mem w2 p c k { t.step with cell := fun i => if pg * 68 + a ≤ i ∧ i < pg * 68 + a + 4 then d (a + (i - (pg * 68 + a))) else t.step.cell i } ∧ Keep (Own p c k) w1 w2 :=
          ⟨_, run_copy (w := w1.drew) hcel.drew hrow.drew (pg * 68 + a) a 4 (by rw [hsB, hsP, hM]; omega) ham (fun _ _ => rfl) _ _ _ _ (by show min 4 _ = 4; omega),
            hm1.drew.setCells (pg * 68 + a) 4 (fun i => d (a + i)) (by rw [hsB, hsP, hM]; omega), (Keep.refl _ _).drew.setCells (Or.inl (Or.inr (Or.inl rfl))) _ _⟩
        obtain ⟨t0, t1, t2, t3, t4, t5⟩ := hm2.tops
        obtain ⟨b0, b1, b2', b3, g0, g1, g2, g3⟩ := hm2.at (b := b) (by rw [← hsB] at hb; exact hb)
        have HW2 := HW w2.drew hm2.drew (hk1.trans hk2).drew
        simp only [hsB, hsP] at t0 t2 b0 b1 b2' b3
        clear HW hcel hrow hm2 hm1 hk1 hk2
        have c0 : (b : Int) < s.B := by omega
        have c8 : IntKind.i64.wrap ((j : Int) + 1) = (j : Int) + 1 := by rw [IntKind.wrap_i64]; omega
        have c1 : (a : Int) ≤ ((M - pg * 68 : Nat) : Int) := by omega
        have c2 : ¬ M - pg * 68 = a := by omega
        have c3 : IntKind.i64.wrap ((a : Int) + 4) = (a : Int) + 4 := by rw [IntKind.wrap_i64]; omega
        have c4 : ((a : Int) + 4).toNat = a + 4 := by omega
        have c5 : ¬ gc = a := by omega
        have c6 : (a : Int) + 4 ≤ gc := by omega
        have c7 : (a : Int) ≤ (a : Int) + 4 := by omega
        go_wp2_with fail
        go_region
        go_wp2_with fail
        go_region
        go_wp2_with fail
        go_roundw
        case rel => exact ⟨q + 1, a + 4, _, by omega, by go_num, by have := ha.out; show _ = _; omega, HW2 _ (by omega)⟩
        case measure => simp [intOf]; omega
    · obtain rfl : q = n := by omega
      have hal : ¬ (a : Int) < q * 4 := by omega
      have HE : Hid (s.write b j d 0 q = (true, t)) := by show _ = _; rw [hw.rest, Nat.sub_self]; rfl
      clear ha'
      go_wp2_with fail
      go_ret
      rw [HE.out]
      exact ⟨rfl, hw.mem, hw.keep⟩
end Nd
end Go.Proofs.Ytjafjofonckaaaa
