/-
  reads, given what the program's own Changes and Runs answer.
-/
import Derived.Test.YtlekapfhbceibaaDg
namespace Go.Proofs.Ytlekapfhbceibaa
open Go.ChangeShapes Go.WideShapes Go.ChangeAt Go.RowKit
namespace Tg
open Vi
/-- The program's Changes answers as it should. -/
def ChangesOk : Prop := ∀ {w : World} {a : Option Addr} {len cap : Nat} {b : List Int}, Row w a len cap b → len ≤ 140737488355000 → Calls Try.prog 10 #[.slice a len cap] w fun e w' => (match decL b with
  | none => ∃ a' c', e = .returned (.tuple #[.slice a' 0 c', .int .i64 11])
  | some l => ∃ a' c', e = .returned (.tuple #[.slice a' l.length c', .int .i64 0]) ∧ Rz w' a' c' l) ∧ Keep (fun _ => False) w w'
/-- The program's Runs answers as it should. -/
def RunsOk : Prop := ∀ {w : World} {a : Option Addr} {len cap : Nat} {b : List Int}, Row w a len cap b → len ≤ 140737488355000 → Calls Try.prog 11 #[.slice a len cap] w fun e w' => (match decS b with
  | none => ∃ a' c', e = .returned (.tuple #[.slice a' 0 c', .int .i64 11])
  | some l => ∃ a' c', e = .returned (.tuple #[.slice a' l.length c', .int .i64 0]) ∧ Rz w' a' c' l) ∧ Keep (fun _ => False) w w'
theorem str_nine (l : List Int) : strOfNums (l ++ [9]) = strOfNums l ++ { data := #[9] } := by
  apply ByteArray.ext
  simp [strOfNums, ByteArray.data_append]
theorem text_gr (w : World) (l : List Int) (hb : ∀ n ∈ l, 0 ≤ n ∧ n ≤ 255) (hl : l.length ≤ 9223372036854775807) :
    ∃ cap w1, (convert 9 23 (.string (strOfNums l))).run Try.prog w = .ok (.slice (some ⟨w.heap.size, 0, none⟩) l.length cap) w1 ∧ Gr w w1 w.heap.size cap l := by
  obtain ⟨cap, w1, h1, h2, h3, -, h5⟩ := text_row w l hb hl
  exact ⟨cap, w1, h1, h2, h5, Nat.le_refl _, Keep.of_below h3⟩
theorem dec_len {b : List Int} {l : List Rn} (h : decL b = some l) (hb : Bys b) : l.length ≤ 512 := ((decL_iff hb).1 h).1.1
theorem decS_len {b : List Int} {l : List Rn} (h : decS b = some l) (hb : Bys b) : l.length ≤ 512 := ((decS_iff hb).1 h).1.1
theorem sameL_self (l : List Rn) : sameL l l = true := sameL_iff.2 rfl
set_option maxRecDepth 100000 in
set_option maxHeartbeats 1000000 in
/-- reads. -/
theorem reads_any (HC : ChangesOk) (HR : RunsOk) {w : World} {a : Option Addr} {len cap : Nat} {b : List Int} (hr : Row w a len cap b) (hlen : len ≤ 140737488355000) :
    Calls Try.prog 15 #[.slice a len cap] w fun e w' => e = .returned (.bool true) ∧ Keep (fun _ => False) w w' := by
  have K0 := Keep.refl (fun _ => False) w
  have hb : Bys b := hr.2.2.2.1
  have hl1 := hr.1
  have hlc := hr.2.1
  have hlc2 := hr.2.2.1
  have t1 := hr.text
  obtain ⟨cp, w1, hc1, G1⟩ := text_gr w b hb (by omega)
  rw [hl1] at hc1
  obtain ⟨g2, cap2, w2, hrun, G2⟩ := G1.one (x := 9) hl1 (by omega) (by omega)
  have hR2 : Row w2 (some ⟨g2, 0, none⟩) len cap2 b := by
    have h := (G2.at (n := len + 1) (by simp [hl1])).first (n := len) (by omega)
    rwa [List.take_append_of_le_length (by omega), List.take_of_length_le (by omega)] at h
  have hlc3 : len + 1 ≤ cap2 := by
    have := (G2.at (n := len + 1) (by simp [hl1])).2.1
    omega
  have K2 := G2.keep
  have hno : ¬ 9223372036854775807 < (strOfNums b).size + 1 := by rw [strOfNums_size]; omega
  have hch := HC hR2 hlen
  go_enter Try.func15, Try.ntmps15
  go_wp2_with (at_builtin; refine wpList_append_run rfl (.tmp 14) (.tmp 15) 23 rfl (by rfl) (by rfl) hrun ?_)
  cases hd : decL b with
  | none =>
    cases hs : decS b with
    | none =>
      refine (HC hR2 hlen).mono ?_
      rw [hd]
      rintro e w3 ⟨⟨a3, c3, rfl⟩, k3⟩
      clear hch
      go_wp2_with fail
      refine (HR (hR2.moreV k3) hlen).mono ?_
      rw [hs]
      rintro e w4 ⟨⟨a4, c4, rfl⟩, k4⟩
      have K4 := (K2.trans k3).trans k4
      go_wp2_with fail
      refine (changes_any (hr.moreV K4)).mono ?_
      rw [hd]
      rintro e w5 ⟨rfl, k5⟩
      go_wp2_with fail
      refine (runs_any (hr.moreV (K4.trans k5))).mono ?_
      rw [hs]
      rintro e w6 ⟨rfl, k6⟩
      have K6 := (K4.trans k5).trans k6
      have t1 := (hr.moreV K6).text
      have t2 := ((G2.at (n := len + 1) (by simp [hl1])).moreV (((k3.trans k4).trans k5).trans k6)).text
      rw [str_nine] at t2
      clear HC HR hR2 G2 hrun hc1 hr hb K0 G1
      go_wp2_with fail
      go_ret
      exact ⟨rfl, K6⟩
    | some m =>
      have hl5 := decS_len hs hb
      refine (HC hR2 hlen).mono ?_
      rw [hd]
      rintro e w3 ⟨⟨a3, c3, rfl⟩, k3⟩
      clear hch
      go_wp2_with fail
      refine (HR (hR2.moreV k3) hlen).mono ?_
      rw [hs]
      rintro e w4 ⟨⟨a4, c4, rfl, R4⟩, k4⟩
      have K4 := (K2.trans k3).trans k4
      go_wp2_with fail
      refine (changes_any (hr.moreV K4)).mono ?_
      rw [hd]
      rintro e w5 ⟨rfl, k5⟩
      go_wp2_with fail
      refine (runs_any (hr.moreV (K4.trans k5))).mono ?_
      rw [hs]
      rintro e w6 ⟨a6, c6, rfl, R6⟩
      have k6 := R6.keep
      have K6 := (K4.trans k5).trans k6
      have t1 := (hr.moreV K6).text
      have t2 := ((G2.at (n := len + 1) (by simp [hl1])).moreV (((k3.trans k4).trans k5).trans k6)).text
      rw [str_nine] at t2
      clear HC HR hR2 G2 hrun hc1 hr hb K0 G1
      go_wp2_with fail
      have sr := sameZ (w := w6) (R4.more (k5.trans k6)) ((R6.rs.rz)) (by have := hl5; omega)
      rw [sameL_self] at sr
      go_wp2_with fail
      refine sr.mono ?_
      rintro e w8 ⟨rfl, k8⟩
      go_wp2_with fail
      go_ret
      exact ⟨rfl, K6.trans k8⟩
  | some l =>
    cases hs : decS b with
    | none =>
      refine (HC hR2 hlen).mono ?_
      rw [hd]
      rintro e w3 ⟨⟨a3, c3, rfl, R3⟩, k3⟩
      clear hch
      go_wp2_with fail
      refine (HR (hR2.moreV k3) hlen).mono ?_
      rw [hs]
      rintro e w4 ⟨⟨a4, c4, rfl⟩, k4⟩
      have K4 := (K2.trans k3).trans k4
      go_wp2_with fail
      refine (changes_any (hr.moreV K4)).mono ?_
      rw [hd]
      rintro e w5 ⟨a5, c5, rfl, R5⟩
      have k5 := R5.keep
      go_wp2_with fail
      refine (runs_any (hr.moreV (K4.trans k5))).mono ?_
      rw [hs]
      rintro e w6 ⟨rfl, k6⟩
      have K6 := (K4.trans k5).trans k6
      have t1 := (hr.moreV K6).text
      have t2 := ((G2.at (n := len + 1) (by simp [hl1])).moreV (((k3.trans k4).trans k5).trans k6)).text
      rw [str_nine] at t2
      have so := opsZ (w := w6) ((R3.more ((k4.trans k5).trans k6))) ((R5.more k6).rs.rz) (by have := dec_len hd hb; omega)
      rw [sameL_self] at so
      clear HC HR hR2 G2 hrun hc1 hr hb K0 G1
      go_wp2_with fail
      refine so.mono ?_
      rintro e w7 ⟨rfl, k7⟩
      have K7 := K6.trans k7
      go_wp2_with fail
      go_ret
      exact ⟨rfl, K7⟩
    | some m =>
      have hl5 := decS_len hs hb
      refine (HC hR2 hlen).mono ?_
      rw [hd]
      rintro e w3 ⟨⟨a3, c3, rfl, R3⟩, k3⟩
      clear hch
      go_wp2_with fail
      refine (HR (hR2.moreV k3) hlen).mono ?_
      rw [hs]
      rintro e w4 ⟨⟨a4, c4, rfl, R4⟩, k4⟩
      have K4 := (K2.trans k3).trans k4
      go_wp2_with fail
      refine (changes_any (hr.moreV K4)).mono ?_
      rw [hd]
      rintro e w5 ⟨a5, c5, rfl, R5⟩
      have k5 := R5.keep
      go_wp2_with fail
      refine (runs_any (hr.moreV (K4.trans k5))).mono ?_
      rw [hs]
      rintro e w6 ⟨a6, c6, rfl, R6⟩
      have k6 := R6.keep
      have K6 := (K4.trans k5).trans k6
      have t1 := (hr.moreV K6).text
      have t2 := ((G2.at (n := len + 1) (by simp [hl1])).moreV (((k3.trans k4).trans k5).trans k6)).text
      rw [str_nine] at t2
      have so := opsZ (w := w6) ((R3.more ((k4.trans k5).trans k6))) ((R5.more k6).rs.rz) (by have := dec_len hd hb; omega)
      rw [sameL_self] at so
      clear HC HR hR2 G2 hrun hc1 hr hb K0 G1
      go_wp2_with fail
      refine so.mono ?_
      rintro e w7 ⟨rfl, k7⟩
      have K7 := K6.trans k7
      have sr := sameZ (w := w7) (R4.more ((k5.trans k6).trans k7)) ((R6.rs.rz).more k7) (by have := hl5; omega)
      rw [sameL_self] at sr
      go_wp2_with fail
      refine sr.mono ?_
      rintro e w8 ⟨rfl, k8⟩
      go_wp2_with fail
      go_ret
      exact ⟨rfl, K7.trans k8⟩
end Tg
end Go.Proofs.Ytlekapfhbceibaa
