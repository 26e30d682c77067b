/-
  DeltaShort's body, given what the program's own calls answer.
-/
import Derived.Test.YtlekapfhbceibaaDl
namespace Go.Proofs.Ytlekapfhbceibaa
open Go.ChangeShapes Go.WideShapes Go.ChangeAt Go.RowKit
namespace Tg
open Vi
theorem fold_fit (p : List Rn) : fitB (foldR p) = mayB (foldR p) := by
  have h1 := foldR_len p
  rw [Bool.eq_iff_iff, fitB_iff, mayB_iff]
  constructor
  · intro h; exact h.may
  · intro h
    exact ⟨h.1, foldR_form p, fun x hx => ⟨foldR_fin hx, (h.2 x hx).2.2.2.2.2⟩⟩
set_option maxRecDepth 100000 in
set_option maxHeartbeats 1000000 in
theorem short_walk (HA : AwOk) (HS : SnapOk) (HR : RunsOk) (HE : RecordOk) (HC : ChangesOk) {w : World} {a : Option Addr} {cap : Nat} {p : List Rn} (hP : Rz w a cap p) (hfp : Fits p) :
    Calls Try.prog 7 #[.slice a p.length cap] w fun e w' => e = .returned (.bool true) ∧ Keep (fun _ => False) w w' := by
  have hlc := hP.1
  have hlc2 := hP.2.1
  by_cases hbig : 100 < p.length
  · have hb' : (100 : Int) < (p.length : Int) := by omega
    go_enter Try.func7, Try.ntmps7
    go_wp2_with fail
    refine (HA _).mono ?_
    rintro e w1 ⟨rfl, k1⟩
    go_wp2_with fail
    go_ret
    exact ⟨rfl, k1⟩
  · have hb' : ¬ (100 : Int) < (p.length : Int) := by omega
    have hm1 := foldR_len p
    have hff := fold_fit p
    have hfi := foldR_fits p
    go_enter Try.func7, Try.ntmps7
    go_wp2_with fail
    refine (HA _).mono ?_
    rintro e w1 ⟨rfl, k1⟩
    go_wp2_with fail
    refine (fold9 (hP.more k1) hfp).mono ?_
    rintro e w7 ⟨a7, c7, rfl, R7⟩
    have S7 := R7.rs
    have K7 := k1.trans R7.keep
    have Q7 := Rp.nil w7
    generalize foldR p = m at hm1 hff hfi R7 S7 ⊢
    go_wp2_with fail
    have hmc := S7.1
    have hm1' : (m.length : Int) ≤ 512 := by omega
    have hS7 : Hid (Rs w7 a7 c7 m) := S7
    clear R7 hP hbig hb' hlc hlc2
    go_loopw [4, 5] (fun qv v wx => ∃ (i : Nat) (a' : Option Addr) (c' : Nat), i ≤ m.length ∧ qv = .slice a' (m.take i).length c' ∧ v = .int .i64 (i : Int) ∧ Rp w7 wx a' c' (m.take i)) (fun _ v _ => m.length - (intOf v).toNat)
    case atStart => exact ⟨0, none, 0, by omega, rfl, rfl, Q7⟩
    case round =>
      clear Q7
      obtain ⟨i, a', c', hi, rfl, rfl, Q1⟩ := hrel
      by_cases hlt : i < m.length
      · obtain ⟨x, hx⟩ := get_rn hlt
        have S1 := S7.more Q1.keep
        obtain ⟨g, rfl, y0, y1, y2⟩ := S1.at hx
        have hlen : (m.take i).length = i := by rw [List.length_take]; omega
        obtain ⟨a2, c2, w3, happ, Q3⟩ := (Q1.more (Keep.refl (fun _ => False) wr).drew).app1 (by rw [hlen]; omega) x
        rw [← take_next hx] at Q3
        have hS : ∀ w', Keep (fun _ => False) wr.drew w' → w'.cell? ⟨g, i * 3, none⟩ = some (.int .i64 x.lba) ∧ w'.cell? ⟨g, i * 3 + 1, none⟩ = some (.int .i64 x.len) ∧ w'.cell? ⟨g, i * 3 + 2, none⟩ = some (.int .i64 x.phys) := fun w' hk => by
          have kk := (Keep.refl (fun _ => False) wr).drew.trans hk
          obtain ⟨g', eg, u0, u1, u2⟩ := (S1.more kk).at hx
          injection eg with eg; injection eg with eg; subst eg
          exact ⟨u0, u1, u2⟩
        have hl2 : Hid ((m.take (i + 1)).length = (m.take i).length + 1) := by
          show (m.take (i + 1)).length = _
          rw [take_next hx]; simp
        obtain ⟨g', eg, u0, u1, u2⟩ := (S7.more Q3.keep).at hx
        injection eg with eg; injection eg with eg; subst eg
        have di : (i : Int) < (m.length : Int) := by omega
        have dw := wrapI (x := (i : Int) + 1) (by omega) (by omega)
        have hlt' : Hid (i < m.length) := hlt
        generalize (m.take i).length = n at happ hl2 ⊢
        clear hlt hx hlen Q1 S1 S7 hS7 HA HS HR HE HC hff hfi
        go_wp2_with fail
        go_region_held3 (fun w' => w'.cell? ⟨g, i * 3, none⟩ = some (.int .i64 x.lba) ∧ w'.cell? ⟨g, i * 3 + 1, none⟩ = some (.int .i64 x.len) ∧ w'.cell? ⟨g, i * 3 + 2, none⟩ = some (.int .i64 x.phys)) (first | exact hS _ (Keep.refl _ _) | exact hS _ ((Keep.refl _ _).alloc _) | exact ⟨u0, u1, u2⟩) (refine step_append_run rfl (.tmp 27) (.tmp 44) 29 rfl (by rfl) (by rfl) happ ?_)
        clear happ hS
        go_wp2_with fail
        go_roundw
        case rel => exact ⟨i + 1, a2, c2, hlt', by rw [show (m.take (i + 1)).length = _ from hl2], by go_num, Q3⟩
        case measure => have : i < m.length := hlt'; simp [intOf]; omega
      · obtain rfl : i = m.length := by omega
        rw [List.take_length] at Q1 ⊢
        have Z1 := Q1.rs.rz
        have hsn := HS (S7.more Q1.keep).rz hfi
        have hK1 := K7.trans Q1.keep
        cases hf : fitB m with
        | false =>
          have hmy : mayB m = false := by rw [← hff]; exact hf
          simp only [hf, Bool.false_eq_true, if_false] at hsn
          go_wp2_with fail
          refine hsn.mono ?_
          rintro e w2 ⟨⟨a2, c2, rfl⟩, k2⟩
          have hre := HE (Z1.more k2) hfi
          simp only [hmy, Bool.false_eq_true, if_false] at hre
          clear hsn
          go_wp2_with fail
          refine hre.mono ?_
          rintro e w3 ⟨⟨a3, c3, rfl⟩, k3⟩
          go_wp2_with fail
          go_ret
          exact ⟨rfl, (hK1.trans k2).trans k3⟩
        | true =>
          have hmy : mayB m = true := by rw [← hff]; exact hf
          simp only [hf, if_true] at hsn
          have hF := fitB_iff.1 hf
          have hM := mayB_iff.1 hmy
          have hsh := short_all hF
          have hd1 : decS (snL m) = some m := (decS_iff (bys_snL hF)).2 ⟨hF, rfl⟩
          have hd2 : decL (recL m) = some m := (decL_iff (bys_recL hM)).2 ⟨hM, rfl⟩
          have hn1 := sn_len hF
          have hn2 := rec_lenL hM
          go_wp2_with fail
          refine hsn.mono ?_
          rintro e w2 ⟨⟨a2, c2, rfl, R2⟩, k2⟩
          have hre := HE (Z1.more k2) hfi
          simp only [hmy, if_true] at hre
          clear hsn
          go_wp2_with fail
          refine hre.mono ?_
          rintro e w3 ⟨⟨a3, c3, rfl, R3⟩, k3⟩
          clear hre
          have hru := HR (R2.moreV k3) hn1
          rw [hd1] at hru
          go_wp2_with fail
          refine hru.mono ?_
          rintro e w4 ⟨⟨a4, c4, rfl, R4⟩, k4⟩
          clear hru
          have hch := HC (R3.moreV k4) hn2
          rw [hd2] at hch
          go_wp2_with fail
          refine hch.mono ?_
          rintro e w5 ⟨⟨a5, c5, rfl, R5⟩, k5⟩
          clear hch
          have K25 := ((k2.trans k3).trans k4).trans k5
          have hq1 := sameZ (R4.more k5) ((S7.more Q1.keep).rz.more K25) (by omega)
          rw [sameL_self] at hq1
          have hle : ((snL m).length : Int) ≤ ((recL m).length : Int) := by omega
          clear HA HS HR HE HC hsh hd1 hd2 hn1 hn2
          generalize (snL m).length = na at hle ⊢
          generalize (recL m).length = nb at hle ⊢
          go_wp2_with fail
          refine hq1.mono ?_
          rintro e w6 ⟨rfl, k6⟩
          have hq2 := opsZ (R5.more k6) (Z1.more (K25.trans k6)) (by omega)
          rw [sameL_self] at hq2
          go_wp2_with fail
          refine hq2.mono ?_
          rintro e w8 ⟨rfl, k8⟩
          go_wp2_with fail
          go_ret
          exact ⟨rfl, ((hK1.trans K25).trans k6).trans k8⟩
end Tg
end Go.Proofs.Ytlekapfhbceibaa
