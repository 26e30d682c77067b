/-
  The statement of the one form, walked: any runs, any pieces: it returns true, and whatever was in memory is as it was.
-/
import Derived.Test.YtkddonmddgfpnaaAwS
import Derived.Test.YtkddonmddgfpnaaOpen
namespace Go.Proofs.Ytkddonmddgfpnaa
open Go.ChangeShapes Go.WideShapes Go.ChangeAt Go.RowKit
namespace Tg

theorem step_append_run {P : Program} {ops : Array Oper} {o : Oper} {a : Act} {w : World} {K : Act → World → Prop} {Q : Exit → Act → World → Prop} {E : Prop}
    (hw : Region.wanted o (yielded ops a.tmps) = true) (s x : Operand) (t : TypeId) (hop : o.op = Op.call { callee := Callee.builtin Builtin.append, args := #[s, x], argTypes := #[t, t] })
    {v1 v2 v' : Value} {w' : World} (hs : a.eval s = v1) (hx : a.eval x = v2) (hrun : (Builtin.append_ #[t, t] o.type #[v1, v2]).run P w = .ok v' w')
    (hK : K (a.put o.dst v') w') : if Region.wanted o (yielded ops a.tmps) = true then Oper.wp P o a w K Q else E := by
  rw [if_pos hw]
  unfold Oper.wp
  simp [execOp, hop, resolve, invoke, builtin, hs, hx, hrun, Result.andThen]
  exact hK
/-- Does a run begin above 2^20? -/
def farL (m : List Rn) : Bool := m.any (fun x => decide (1048576 < x.phys))
theorem farL_snoc (m : List Rn) (x : Rn) : farL (m ++ [x]) = (farL m || decide (1048576 < x.phys)) := by simp [farL]
theorem farL_no {m : List Rn} (h : farL m = false) : ∀ x ∈ m, x.phys ≤ 1048576 := fun x hx => by
  unfold farL at h
  rw [List.any_eq_false] at h
  have := h x hx
  simp at this
  exact this
theorem foldR_in {l : List Rn} {x : Rn} (hx : x ∈ foldR l) : inB x = true := by
  have hok := (foldR_form l).1 x hx
  have hfin := foldR_fin hx
  have hp := (foldR_form l).page_of hx (s := x.lba) (by omega) (by unfold Rn.fin; unfold Rn.Ok at hok; omega)
  rw [(foldR_of l).2] at hp
  have he := foldT_ent l blank_len blank_ent x.lba.toNat
  unfold Rn.Ok at hok
  unfold Rn.fin at hfin
  rw [inB_iff]
  unfold entry at hp
  split at hp
  · injection hp with hp
    omega
  · cases hp
theorem foldR_formP (l : List Rn) : formP none (foldR l) = true := form_true (foldR_form l) (fun x hx => foldR_in hx) (fun a e => by cases e)
theorem foldR_len (l : List Rn) : (foldR l).length ≤ 512 := refR_len _ 512
theorem foldR_fits (l : List Rn) : Fits (foldR l) := fun x hx => by
  have h := inB_iff.1 (foldR_in hx)
  omega
theorem foldR_self {l : List Rn} (h : farL (foldR l) = false) : foldR (foldR l) = foldR l := fold_self (foldR_form l) (fun x hx => ⟨foldR_fin hx, farL_no h x hx⟩)
theorem sameL_refl (m : List Rn) : sameL m m = true := sameL_iff.2 rfl

set_option maxRecDepth 100000 in
set_option maxHeartbeats 4000000 in
theorem formW {W : World} {a1 a2 : Option Addr} {d1 d2 : Nat} {l p : List Rn} (hl : Rz W a1 d1 l) (hp : Rz W a2 d2 p) (hfp : Fits p) :
    Calls Try.prog 6 #[.slice a1 l.length d1, .slice a2 p.length d2] W fun e w' => e = .returned (.bool true) ∧ Keep (fun _ => False) W w' := by
  have haw := awake_any W
  have hlc := hl.1
  have hlc2 := hl.2.1
  have hpc := hp.1
  have hpc2 := hp.2.1
  have fl := fun w1 (k : Keep (fun _ => False) W w1) => form_any (hl.more k) (by omega)
  have f9 := fun w1 (k : Keep (fun _ => False) W w1) => form9 (hl.more k) (by omega)
  have ho := fun w1 (k : Keep (fun _ => False) W w1) => fold_any (hp.more k) hfp
  have ho9 := fun w1 (k : Keep (fun _ => False) W w1) => fold9 (hp.more k) hfp
  have hm1 := foldR_len p
  have hm2 := foldR_formP p
  have hm3 := @foldR_self p
  have hm4 := foldR_fits p
  generalize foldR p = m at ho ho9 hm1 hm2 hm3 hm4
  generalize formP none l = fb at fl f9
  clear hl hp hfp
  go_enter Try.func6, Try.ntmps6
  go_upto_region 3 with (go_at_call 9; refine haw.mono ?_; rintro e w1 ⟨rfl, k1⟩)
  clear haw
  go_wp2_with fail
  refine (fl w1 k1).mono ?_
  rintro e w2 ⟨rfl, k2'⟩
  have k2 := k1.trans k2'
  clear k2'
  go_wp2_with fail
  refine (f9 w2 k2).mono ?_
  rintro e w3 ⟨rfl, k3'⟩
  have k3 := k2.trans k3'
  clear k3'
  have hbb : (fb != fb) = false := by cases fb <;> rfl
  by_cases h200 : (200 : Int) < (p.length : Int)
  · cases fb with
    | true =>
      go_wp2_with fail
      refine (fl w3 k3).mono ?_
      rintro e w4 ⟨rfl, k4'⟩
      have k4 := k3.trans k4'
      clear k4'
      go_wp2_with fail
      refine (f9 w4 k4).mono ?_
      rintro e w5 ⟨rfl, k5'⟩
      have k5 := k4.trans k5'
      clear k5' fl f9 ho ho9
      go_wp2_with fail
      go_ret
      exact ⟨rfl, k5⟩
    | false =>
      go_wp2_with fail
      refine (fl w3 k3).mono ?_
      rintro e w4 ⟨rfl, k4'⟩
      have k4 := k3.trans k4'
      clear k4'
      go_wp2_with fail
      refine (f9 w4 k4).mono ?_
      rintro e w5 ⟨rfl, k5'⟩
      have k5 := k4.trans k5'
      clear k5' fl f9 ho ho9
      go_wp2_with fail
      go_ret
      exact ⟨rfl, k5⟩
  clear fl f9
  go_wp2_with fail
  refine (ho w3 k3).mono ?_
  rintro e w4 ⟨a4, c4, rfl, R4, k4', -⟩
  have k4 := k3.trans k4'
  clear k4' ho
  go_wp2_with fail
  refine (ho9 w4 k4).mono ?_
  rintro e w5 ⟨a5, c5, rfl, R5⟩
  have k5 := k4.trans R5.keep
  have S5 := R4.more R5.keep
  have c6 := same9 S5 R5.rs (by omega)
  rw [sameL_refl] at c6
  clear ho9 R4
  go_wp2_with fail
  refine c6.mono ?_
  rintro e w6 ⟨rfl, k6'⟩
  have k6 := k5.trans k6'
  have S6 := S5.more k6'
  have c7 := form_any S6.rz (by omega)
  rw [hm2] at c7
  clear c6 k6' S5 R5
  go_wp2_with fail
  refine c7.mono ?_
  rintro e w7 ⟨rfl, k7'⟩
  have k7 := k6.trans k7'
  have S7 := S6.more k7'
  clear c7 k7' S6 hm2
  go_wp2_with fail
  have Q7 : Rq w7 w7 none 0 (m.take 0) := Rq.nil w7
  have hend : m.take m.length = m := List.take_length
  have hmc := S7.1
  have hm1' : (m.length : Int) ≤ 512 := by omega
  go_loopw [6, 7, 8] (fun qv fv v wx => ∃ (i : Nat) (a' : Option Addr) (c' : Nat), i ≤ m.length ∧ qv = .slice a' (m.take i).length c' ∧ fv = .bool (farL (m.take i)) ∧ v = .int .i64 (i : Int) ∧ Rq w7 wx a' c' (m.take i)) (fun _ _ v _ => m.length - (intOf v).toNat)
  case atStart => exact ⟨0, none, 0, by omega, rfl, rfl, rfl, Q7⟩
  case round =>
    clear Q7
    obtain ⟨i, a', c', hi, rfl, rfl, rfl, Q1⟩ := hrel
    by_cases hlt : i < m.length
    · obtain ⟨x, hx⟩ := get_rn hlt
      have S1 := S7.more Q1.keep
      obtain ⟨g, rfl, y0, y1, y2⟩ := S1.at hx
      have hlen : (m.take i).length = i := by rw [List.length_take]; omega
      obtain ⟨a2, c2, w3, happ, Q3⟩ := (Q1.more (Keep.refl (fun _ => False) wr).drew).app1 (by rw [hlen]; omega) x
      rw [← take_more hx] at Q3
      have hS : ∀ w', Keep (fun _ => False) wr.drew w' → w'.cell? ⟨g, i * 3, none⟩ = some (.int .i64 x.lba) ∧ w'.cell? ⟨g, i * 3 + 1, none⟩ = some (.int .i64 x.len) ∧ w'.cell? ⟨g, i * 3 + 2, none⟩ = some (.int .i64 x.phys) := fun w' hk => by
        have kk := (Keep.refl (fun _ => False) wr).drew.trans hk
        exact ⟨kk.cell y0, kk.cell y1, kk.cell y2⟩
      have hfar : Hid (farL (m.take (i + 1)) = (farL (m.take i) || decide (1048576 < x.phys))) := by
        show farL (m.take (i + 1)) = _
        rw [take_more hx, farL_snoc]
      have hl2 : Hid ((m.take (i + 1)).length = (m.take i).length + 1) := by
        show (m.take (i + 1)).length = _
        rw [take_more hx]; simp
      obtain ⟨g', eg, u0, u1, u2⟩ := (S7.more Q3.keep).at hx
      injection eg with eg; injection eg with eg; subst eg
      have di : (i : Int) < (m.length : Int) := by omega
      have dw := wrapI (x := (i : Int) + 1) (by omega) (by omega)
      have hlt' : Hid (i < m.length) := hlt
      generalize (m.take i).length = n at happ hl2 ⊢
      generalize farL (m.take i) = fr at hfar ⊢
      clear hlt hx hlen Q1 S1 y0 y1 y2 S7 hm3 hm4 hend
      go_wp2_with fail
      go_region_held3 (fun w' => w'.cell? ⟨g, i * 3, none⟩ = some (.int .i64 x.lba) ∧ w'.cell? ⟨g, i * 3 + 1, none⟩ = some (.int .i64 x.len) ∧ w'.cell? ⟨g, i * 3 + 2, none⟩ = some (.int .i64 x.phys)) (first | exact hS _ (Keep.refl _ _) | exact hS _ ((Keep.refl _ _).alloc _) | exact ⟨u0, u1, u2⟩) (refine step_append_run rfl (.tmp 44) (.tmp 61) 55 rfl (by rfl) (by rfl) happ ?_)
      clear happ hS
      cases fr with
      | true =>
        go_wp2_with fail
        go_roundw
        case rel => exact ⟨i + 1, a2, c2, hlt', by rw [show (m.take (i + 1)).length = _ from hl2], by rw [show farL (m.take (i + 1)) = _ from hfar]; rfl, by go_num, Q3⟩
        case measure => have : i < m.length := hlt'; simp [intOf]; omega
      | false =>
        go_wp2_with fail
        go_roundw
        case rel => exact ⟨i + 1, a2, c2, hlt', by rw [show (m.take (i + 1)).length = _ from hl2], by rw [show farL (m.take (i + 1)) = _ from hfar]; rfl, by go_num, Q3⟩
        case measure => have : i < m.length := hlt'; simp [intOf]; omega
    · have di : ¬ (i : Int) < (m.length : Int) := by omega
      have ei : i = m.length := by omega
      rw [ei, hend] at Q1 ⊢
      have k8 := k7.trans Q1.keep
      have S8 := S7.more Q1.keep
      have c8 := fold_any Q1.rs.rz hm4
      clear hlt ei hend
      cases hfr : farL m with
      | true =>
        clear c8 hm3 hm4
        go_wp2_with fail
        go_ret
        exact ⟨rfl, k8⟩
      | false =>
        rw [hm3 hfr] at c8
        clear hm3 hm4 hfr
        go_wp2_with fail
        refine c8.mono ?_
        rintro e w9 ⟨a9, c9, rfl, R9, k9, -⟩
        have c10 := same9 R9 (S8.more k9) (by omega)
        rw [sameL_refl] at c10
        have k10 := k8.trans k9
        clear c8 R9 S8 k9
        go_wp2_with fail
        refine c10.mono ?_
        rintro e w11 ⟨rfl, k11⟩
        have k12 := k10.trans k11
        clear c10
        go_wp2_with fail
        go_ret
        exact ⟨rfl, k12⟩
theorem form_walk {W : World} {a1 a2 : Option Addr} {n1 n2 d1 d2 : Nat} (hl : Rows3 W a1 n1 d1) (hp : Rows3 W a2 n2 d2) :
    Calls Try.prog 6 #[.slice a1 n1 d1, .slice a2 n2 d2] W fun e w' => e = .returned (.bool true) ∧ Below W.heap.size W w' := by
  obtain ⟨l, rfl, h1, -⟩ := hl
  obtain ⟨p, rfl, h2, h3⟩ := hp
  exact (formW h1 h2 h3).mono fun _ _ ⟨h1, h2⟩ => ⟨h1, h2.below (Nat.le_refl _) (fun _ e => e.elim)⟩
end Tg
end Go.Proofs.Ytkddonmddgfpnaa
