/-
  What the document's own Decode answers: the page, or why there is none.
-/
import Derived.Test.YtgohmjidbbecpaaRefA
namespace Go.Proofs.Ytgohmjidbbecpaa
open Go.ChangeShapes Go.WideShapes Go.ChangeAt Go.RowKit
namespace Tg
open Crc
theorem call25 (args : Array Value) (w : World) : (callFunc 25 args).run Try.prog w = .ok (.enter 25 args) w := enters Try.func25 (by kernel_rfl) (by kernel_rfl) args w
theorem Bytes.rget {w : World} {b o cap : Nat} {c : Nat → Int} (h : Bytes w b o 68 c) (hb : ∀ i, i < 68 → 0 ≤ c i ∧ c i ≤ 255) (s : Nat) (hs : s + 4 ≤ 68) :
    Calls Try.prog 25 #[.slice (some ⟨b, o, none⟩) 68 cap, .int .i64 s] w fun e w' => e = .returned (.int .u32 (num (fun i => c (s + i)) 4)) ∧ w' = w :=
  rget_any (d := fun i => c (s + i)) (fun i hi => h _ (by omega)) (fun i hi => hb _ (by omega)) hs (by omega)

theorem pcell_congr {k : Int} {v v' d d' : Nat → Int} (hv : ∀ j, j < 6 → v j = v' j) (hd : ∀ i, i < 32 → d i = d' i) {i : Nat} (hi : i < 39) : pcell k v d i = pcell k v' d' i := by
  unfold pcell
  by_cases e0 : i = 0
  · rw [if_pos e0, if_pos e0]
  · rw [if_neg e0, if_neg e0]
    by_cases e7 : i < 7
    · rw [if_pos e7, if_pos e7, hv _ (by omega)]
    · rw [if_neg e7, if_neg e7, hd _ (by omega)]
theorem pay_step {k : Int} {v c : Nat → Int} {q i : Nat} : (if i = 7 + q then Value.int .u8 (c q) else pcell k v (fun i => if i < q then c i else 0) i) = pcell k v (fun i => if i < q + 1 then c i else 0) i := by
  unfold pcell
  by_cases e : i = 7 + q
  · subst e
    rw [if_pos rfl, if_neg (by omega), if_neg (by omega)]
    show _ = Value.int .u8 (if 7 + q - 7 < q + 1 then c (7 + q - 7) else 0)
    rw [if_pos (by omega), show 7 + q - 7 = q by omega]
  · rw [if_neg e]
    by_cases e0 : i = 0
    · rw [if_pos e0, if_pos e0]
    · rw [if_neg e0, if_neg e0]
      by_cases e7 : i < 7
      · rw [if_pos e7, if_pos e7]
      · rw [if_neg e7, if_neg e7]
        show Value.int .u8 (if i - 7 < q then c (i - 7) else 0) = Value.int .u8 (if i - 7 < q + 1 then c (i - 7) else 0)
        by_cases e8 : i - 7 < q
        · rw [if_pos e8, if_pos (by omega)]
        · rw [if_neg e8, if_neg (by omega)]

theorem rdec_len {w : World} {a : Option Addr} {n cap : Nat} (hn : ¬ n = 68) : Calls Try.prog 16 #[.slice a n cap] w fun e w' => e = .returned (.tuple #[.agg noPage, .int .i64 1]) ∧ Keep (fun _ => False) w w' := by
  have hn' : ¬ (n : Int) = 68 := by omega
  obtain ⟨w3, hst, hb3, hk3⟩ := new_page w 0 (fun _ => 0) (fun _ => 0)
  have hld := load_page hb3
  rw [show pageA 0 (fun _ => 0) (fun _ => 0) = _ from noPage_eq] at hst
  go_enter Try.func16, Try.ntmps16
  go_wp2_with (refine wpList_store_run rfl 30 (.tmp 2) (.tmp 9) rfl (by rfl) (by rfl) hst ?_)
  refine bodyPost_ret (v := .tuple #[.agg (pageA 0 (fun _ => 0) (fun _ => 0)), .int .i64 1]) ?_ rfl ⟨rfl, hk3⟩
  rw [results_cell_tmp rfl]
  simp [asAddr, Result.andThen, hld]

theorem rdec_clean {w : World} {a : Option Addr} {cap : Nat} {c : Nat → Int} (hr : Row w a 68 cap (tab 68 c)) (hcl : cleanB (tab 68 c) = true) : Calls Try.prog 16 #[.slice a 68 cap] w fun e w' => e = .returned (.tuple #[.agg noPage, .int .i64 4]) ∧ Keep (fun _ => False) w w' := by
  obtain ⟨w3, hst, hb3, hk3⟩ := new_page w 0 (fun _ => 0) (fun _ => 0)
  have hld := load_page hb3
  have H := rclean_any (hr.keep ((Keep.refl (fun _ => False) w).alloc (.cells noPage 30)) (fun _ _ _ e => e))
  rw [hcl] at H
  rw [show pageA 0 (fun _ => 0) (fun _ => 0) = _ from noPage_eq] at hst
  rw [noPage_eq] at H
  go_enter Try.func16, Try.ntmps16
  go_wp2_with (first | (go_at_call 17; refine H.mono ?_; rintro e w' ⟨rfl, rfl⟩) | refine wpList_store_run rfl 30 (.tmp 2) (.tmp 12) rfl (by rfl) (by rfl) hst ?_)
  refine bodyPost_ret (v := .tuple #[.agg (pageA 0 (fun _ => 0) (fun _ => 0)), .int .i64 4]) ?_ rfl ⟨rfl, hk3⟩
  rw [results_cell_tmp rfl]
  simp [asAddr, Result.andThen, hld]
theorem rdec_torn {w : World} {b o cap : Nat} {c : Nat → Int} (hr : Row w (some ⟨b, o, none⟩) 68 cap (tab 68 c)) (hc : ∀ i, i < 68 → w.cell? ⟨b, o + i, none⟩ = some (.int .u8 (c i))) (hcl : cleanB (tab 68 c) = false)
    (hm : ¬ (c 64 = 68 ∧ c 65 = 79 ∧ c 66 = 78 ∧ c 67 = 69)) : Calls Try.prog 16 #[.slice (some ⟨b, o, none⟩) 68 cap] w fun e w' => e = .returned (.tuple #[.agg noPage, .int .i64 9]) ∧ Keep (fun _ => False) w w' := by
  have hka : Keep (fun _ => False) w (w.alloc (.cells noPage 30)) := (Keep.refl (fun _ => False) w).alloc _
  have H := rclean_any (hr.keep hka (fun _ _ _ e => e))
  rw [hcl] at H
  have h68 := hr.2.1
  have hcap := hr.2.2.1
  have HB0 : Bytes w b o 68 c := hc
  have HB : Bytes (w.alloc (.cells noPage 30)) b o 68 c := HB0.alloc _
  have c64 := HB 64 (by omega)
  have c65 := HB 65 (by omega)
  have c66 := HB 66 (by omega)
  have c67 := HB 67 (by omega)
  obtain ⟨w3, hst, hb3, hk3⟩ := new_page w 0 (fun _ => 0) (fun _ => 0)
  have hld := load_page hb3
  rw [show pageA 0 (fun _ => 0) (fun _ => 0) = _ from noPage_eq] at hst
  rw [noPage_eq] at H c64 c65 c66 c67
  clear HB HB0 hka hc
  generalize c 64 = x0 at *
  generalize c 65 = x1 at *
  generalize c 66 = x2 at *
  generalize c 67 = x3 at *
  by_cases e0 : x0 = 68
  · by_cases e1 : x1 = 79
    · by_cases e2 : x2 = 78
      · have e3 : ¬ x3 = 69 := fun e => hm ⟨e0, e1, e2, e⟩
        subst e0 e1 e2
        clear hm
        go_enter Try.func16, Try.ntmps16
        go_wp2_with (first | (go_at_call 17; refine H.mono ?_; rintro e w' ⟨rfl, rfl⟩) | refine wpList_store_run rfl 30 (.tmp 2) (.tmp 35) rfl (by rfl) (by rfl) hst ?_)
        refine bodyPost_ret (v := .tuple #[.agg (pageA 0 (fun _ => 0) (fun _ => 0)), .int .i64 9]) ?_ rfl ⟨rfl, hk3⟩
        rw [results_cell_tmp rfl]
        simp [asAddr, Result.andThen, hld]
      · subst e0 e1
        clear hm
        go_enter Try.func16, Try.ntmps16
        go_wp2_with (first | (go_at_call 17; refine H.mono ?_; rintro e w' ⟨rfl, rfl⟩) | refine wpList_store_run rfl 30 (.tmp 2) (.tmp 35) rfl (by rfl) (by rfl) hst ?_)
        refine bodyPost_ret (v := .tuple #[.agg (pageA 0 (fun _ => 0) (fun _ => 0)), .int .i64 9]) ?_ rfl ⟨rfl, hk3⟩
        rw [results_cell_tmp rfl]
        simp [asAddr, Result.andThen, hld]
    · subst e0
      clear hm
      go_enter Try.func16, Try.ntmps16
      go_wp2_with (first | (go_at_call 17; refine H.mono ?_; rintro e w' ⟨rfl, rfl⟩) | refine wpList_store_run rfl 30 (.tmp 2) (.tmp 35) rfl (by rfl) (by rfl) hst ?_)
      refine bodyPost_ret (v := .tuple #[.agg (pageA 0 (fun _ => 0) (fun _ => 0)), .int .i64 9]) ?_ rfl ⟨rfl, hk3⟩
      rw [results_cell_tmp rfl]
      simp [asAddr, Result.andThen, hld]
  · clear hm
    go_enter Try.func16, Try.ntmps16
    go_wp2_with (first | (go_at_call 17; refine H.mono ?_; rintro e w' ⟨rfl, rfl⟩) | refine wpList_store_run rfl 30 (.tmp 2) (.tmp 35) rfl (by rfl) (by rfl) hst ?_)
    refine bodyPost_ret (v := .tuple #[.agg (pageA 0 (fun _ => 0) (fun _ => 0)), .int .i64 9]) ?_ rfl ⟨rfl, hk3⟩
    rw [results_cell_tmp rfl]
    simp [asAddr, Result.andThen, hld]

theorem rdec_crc {w : World} {b o cap : Nat} {c : Nat → Int} (hr : Row w (some ⟨b, o, none⟩) 68 cap (tab 68 c)) (hb : ∀ i, i < 68 → 0 ≤ c i ∧ c i ≤ 255) (hc : ∀ i, i < 68 → w.cell? ⟨b, o + i, none⟩ = some (.int .u8 (c i))) (hcl : cleanB (tab 68 c) = false)
    (hm : c 64 = 68 ∧ c 65 = 79 ∧ c 66 = 78 ∧ c 67 = 69) (hne : ¬ num (fun i => c (60 + i)) 4 = val (more 0#32 (tab 60 c))) : Calls Try.prog 16 #[.slice (some ⟨b, o, none⟩) 68 cap] w fun e w' => e = .returned (.tuple #[.agg noPage, .int .i64 10]) ∧ Keep (fun _ => False) w w' := by
  have hka : Keep (fun _ => False) w (w.alloc (.cells noPage 30)) := (Keep.refl (fun _ => False) w).alloc _
  have H := rclean_any (hr.keep hka (fun _ _ _ e => e))
  rw [hcl] at H
  have h68 := hr.2.1
  have hcap := hr.2.2.1
  have HB0 : Bytes w b o 68 c := hc
  have HB : Bytes (w.alloc (.cells noPage 30)) b o 68 c := HB0.alloc _
  have c64 := HB 64 (by omega)
  have c65 := HB 65 (by omega)
  have c66 := HB 66 (by omega)
  have c67 := HB 67 (by omega)
  obtain ⟨m0, m1, m2, m3⟩ := hm
  rw [m0] at c64
  rw [m1] at c65
  rw [m2] at c66
  rw [m3] at c67
  have hget := fun n => Bytes.rget (w := (w.alloc (.cells noPage 30)).drewN n) (cap := cap) HB hb 60 (by omega)
  have hsum := fun n => refsum_any (some ⟨b, o, none⟩) 60 cap (tab 60 c) ((w.alloc (.cells noPage 30)).drewN n) (by
    have := Row.sub (w := (w.alloc (.cells noPage 30)).drewN n) (cap := cap) HB hb 0 60 (by omega) (by omega) (by omega)
    simpa using this)
  generalize num (fun i => c (60 + i)) 4 = x at hget hne
  generalize val (more 0#32 (tab 60 c)) = y at hsum hne
  rw [noPage_eq] at H c64 c65 c66 c67 hget hsum hka
  clear HB HB0 hc hb
  have hb0 := blk_alloc w _ 30 39 _ (pageA_get 0 (fun _ => 0) (fun _ => 0))
  rw [show pageA 0 (fun _ => 0) (fun _ => 0) = _ from noPage_eq] at hb0
  go_enter Try.func16, Try.ntmps16
  go_wp2_with (go_at_call 17; refine H.mono ?_; rintro e w' ⟨rfl, rfl⟩)
  go_quiet ((first | (go_at_call 24; exact Calls.quiet_of_same (hsum _)) | (go_at_call 25; exact Calls.quiet_of_same (hget _))))
  obtain ⟨w3, hst, hb3, hk3⟩ := store_page (hb0.keep ((Keep.refl (fun _ => False) _).drewN nq) (fun e => e)) 0 (fun _ => 0) (fun _ => 0)
  have hld := load_page hb3
  have HK : Keep (fun _ => False) w w3 := (hka.drewN nq).next hk3 (fun x hx e => by omega)
  rw [show pageA 0 (fun _ => 0) (fun _ => 0) = _ from noPage_eq] at hst
  clear hget hsum H hb0 hb3 hk3
  go_wp2_with (refine wpList_store_run rfl 30 (.tmp 2) (.tmp 42) rfl (by rfl) (by rfl) hst ?_)
  refine bodyPost_ret (v := .tuple #[.agg (pageA 0 (fun _ => 0) (fun _ => 0)), .int .i64 10]) ?_ rfl ⟨rfl, HK⟩
  rw [results_cell_tmp rfl]
  simp [asAddr, Result.andThen, hld]

theorem rdec_form {w : World} {b o cap : Nat} {c : Nat → Int} (hr : Row w (some ⟨b, o, none⟩) 68 cap (tab 68 c)) (hb : ∀ i, i < 68 → 0 ≤ c i ∧ c i ≤ 255) (hc : ∀ i, i < 68 → w.cell? ⟨b, o + i, none⟩ = some (.int .u8 (c i))) (hcl : cleanB (tab 68 c) = false)
    (hm : c 64 = 68 ∧ c 65 = 79 ∧ c 66 = 78 ∧ c 67 = 69) (hne : num (fun i => c (60 + i)) 4 = val (more 0#32 (tab 60 c))) (hf : ¬ (1 ≤ c 0 ∧ c 0 ≤ 3 ∧ c 1 = 0 ∧ c 2 = 0 ∧ c 3 = 0)) : Calls Try.prog 16 #[.slice (some ⟨b, o, none⟩) 68 cap] w fun e w' => e = .returned (.tuple #[.agg noPage, .int .i64 11]) ∧ Keep (fun _ => False) w w' := by
  have hka : Keep (fun _ => False) w (w.alloc (.cells noPage 30)) := (Keep.refl (fun _ => False) w).alloc _
  have H := rclean_any (hr.keep hka (fun _ _ _ e => e))
  rw [hcl] at H
  have h68 := hr.2.1
  have hcap := hr.2.2.1
  have HB0 : Bytes w b o 68 c := hc
  have HB : Bytes (w.alloc (.cells noPage 30)) b o 68 c := HB0.alloc _
  have c64 := HB 64 (by omega)
  have c65 := HB 65 (by omega)
  have c66 := HB 66 (by omega)
  have c67 := HB 67 (by omega)
  have d0 := HB 0 (by omega)
  have d1 := HB 1 (by omega)
  have d2 := HB 2 (by omega)
  have d3 := HB 3 (by omega)
  obtain ⟨m0, m1, m2, m3⟩ := hm
  rw [m0] at c64
  rw [m1] at c65
  rw [m2] at c66
  rw [m3] at c67
  have b0 := hb 0 (by omega)
  have hget := fun n => Bytes.rget (w := (w.alloc (.cells noPage 30)).drewN n) (cap := cap) HB hb 60 (by omega)
  have hsum := fun n => refsum_any (some ⟨b, o, none⟩) 60 cap (tab 60 c) ((w.alloc (.cells noPage 30)).drewN n) (by
    have := Row.sub (w := (w.alloc (.cells noPage 30)).drewN n) (cap := cap) HB hb 0 60 (by omega) (by omega) (by omega)
    simpa using this)
  simp only [hne] at hget
  clear hne
  generalize val (more 0#32 (tab 60 c)) = y at hsum hget
  rw [Nat.add_zero] at d0
  rw [noPage_eq] at H c64 c65 c66 c67 hget hsum hka d0 d1 d2 d3
  clear HB HB0 hc hb
  have hb0 := blk_alloc w _ 30 39 _ (pageA_get 0 (fun _ => 0) (fun _ => 0))
  rw [show pageA 0 (fun _ => 0) (fun _ => 0) = _ from noPage_eq] at hb0
  generalize c 0 = c0 at *
  generalize c 1 = c1 at *
  generalize c 2 = c2 at *
  generalize c 3 = c3 at *
  have hk := fun w => rkind_any c0 w
  by_cases k0 : 1 ≤ c0 ∧ c0 ≤ 3
  · simp only [decide_eq_true k0] at hk
    by_cases k1 : c1 = 0
    · by_cases k2 : c2 = 0
      · have k3 : ¬ c3 = 0 := fun e => hf ⟨k0.1, k0.2, k1, k2, e⟩
        subst k1 k2
        clear hf k0
        go_enter Try.func16, Try.ntmps16
        go_wp2_with (go_at_call 17; refine H.mono ?_; rintro e w' ⟨rfl, rfl⟩)
        go_quiet ((first | (go_at_call 24; exact Calls.quiet_of_same (hsum _)) | (go_at_call 25; exact Calls.quiet_of_same (hget _))))
        obtain ⟨w3, hst, hb3, hk3⟩ := store_page (hb0.keep ((Keep.refl (fun _ => False) _).drewN nq) (fun e => e)) 0 (fun _ => 0) (fun _ => 0)
        have hld := load_page hb3
        have HK : Keep (fun _ => False) w w3 := (hka.drewN nq).next hk3 (fun x hx e => by omega)
        rw [show pageA 0 (fun _ => 0) (fun _ => 0) = _ from noPage_eq] at hst
        clear hget hsum H hb0 hb3 hk3
        go_wp2_with (first | (go_at_call 13; refine (hk _).mono ?_; rintro e w' ⟨rfl, rfl⟩) | refine wpList_store_run rfl 30 (.tmp 2) (.tmp 67) rfl (by rfl) (by rfl) hst ?_)
        refine bodyPost_ret (v := .tuple #[.agg (pageA 0 (fun _ => 0) (fun _ => 0)), .int .i64 11]) ?_ rfl ⟨rfl, HK⟩
        rw [results_cell_tmp rfl]
        simp [asAddr, Result.andThen, hld]
      · subst k1
        clear hf k0
        go_enter Try.func16, Try.ntmps16
        go_wp2_with (go_at_call 17; refine H.mono ?_; rintro e w' ⟨rfl, rfl⟩)
        go_quiet ((first | (go_at_call 24; exact Calls.quiet_of_same (hsum _)) | (go_at_call 25; exact Calls.quiet_of_same (hget _))))
        obtain ⟨w3, hst, hb3, hk3⟩ := store_page (hb0.keep ((Keep.refl (fun _ => False) _).drewN nq) (fun e => e)) 0 (fun _ => 0) (fun _ => 0)
        have hld := load_page hb3
        have HK : Keep (fun _ => False) w w3 := (hka.drewN nq).next hk3 (fun x hx e => by omega)
        rw [show pageA 0 (fun _ => 0) (fun _ => 0) = _ from noPage_eq] at hst
        clear hget hsum H hb0 hb3 hk3
        go_wp2_with (first | (go_at_call 13; refine (hk _).mono ?_; rintro e w' ⟨rfl, rfl⟩) | refine wpList_store_run rfl 30 (.tmp 2) (.tmp 67) rfl (by rfl) (by rfl) hst ?_)
        refine bodyPost_ret (v := .tuple #[.agg (pageA 0 (fun _ => 0) (fun _ => 0)), .int .i64 11]) ?_ rfl ⟨rfl, HK⟩
        rw [results_cell_tmp rfl]
        simp [asAddr, Result.andThen, hld]
    · clear hf k0
      go_enter Try.func16, Try.ntmps16
      go_wp2_with (go_at_call 17; refine H.mono ?_; rintro e w' ⟨rfl, rfl⟩)
      go_quiet ((first | (go_at_call 24; exact Calls.quiet_of_same (hsum _)) | (go_at_call 25; exact Calls.quiet_of_same (hget _))))
      obtain ⟨w3, hst, hb3, hk3⟩ := store_page (hb0.keep ((Keep.refl (fun _ => False) _).drewN nq) (fun e => e)) 0 (fun _ => 0) (fun _ => 0)
      have hld := load_page hb3
      have HK : Keep (fun _ => False) w w3 := (hka.drewN nq).next hk3 (fun x hx e => by omega)
      rw [show pageA 0 (fun _ => 0) (fun _ => 0) = _ from noPage_eq] at hst
      clear hget hsum H hb0 hb3 hk3
      go_wp2_with (first | (go_at_call 13; refine (hk _).mono ?_; rintro e w' ⟨rfl, rfl⟩) | refine wpList_store_run rfl 30 (.tmp 2) (.tmp 67) rfl (by rfl) (by rfl) hst ?_)
      refine bodyPost_ret (v := .tuple #[.agg (pageA 0 (fun _ => 0) (fun _ => 0)), .int .i64 11]) ?_ rfl ⟨rfl, HK⟩
      rw [results_cell_tmp rfl]
      simp [asAddr, Result.andThen, hld]
  · simp only [decide_eq_false k0] at hk
    clear hf k0
    go_enter Try.func16, Try.ntmps16
    go_wp2_with (go_at_call 17; refine H.mono ?_; rintro e w' ⟨rfl, rfl⟩)
    go_quiet ((first | (go_at_call 24; exact Calls.quiet_of_same (hsum _)) | (go_at_call 25; exact Calls.quiet_of_same (hget _))))
    obtain ⟨w3, hst, hb3, hk3⟩ := store_page (hb0.keep ((Keep.refl (fun _ => False) _).drewN nq) (fun e => e)) 0 (fun _ => 0) (fun _ => 0)
    have hld := load_page hb3
    have HK : Keep (fun _ => False) w w3 := (hka.drewN nq).next hk3 (fun x hx e => by omega)
    rw [show pageA 0 (fun _ => 0) (fun _ => 0) = _ from noPage_eq] at hst
    clear hget hsum H hb0 hb3 hk3
    go_wp2_with (first | (go_at_call 13; refine (hk _).mono ?_; rintro e w' ⟨rfl, rfl⟩) | refine wpList_store_run rfl 30 (.tmp 2) (.tmp 67) rfl (by rfl) (by rfl) hst ?_)
    refine bodyPost_ret (v := .tuple #[.agg (pageA 0 (fun _ => 0) (fun _ => 0)), .int .i64 11]) ?_ rfl ⟨rfl, HK⟩
    rw [results_cell_tmp rfl]
    simp [asAddr, Result.andThen, hld]

set_option maxHeartbeats 1000000 in
theorem rdec_yes {w : World} {b o cap : Nat} {c : Nat → Int} (hr : Row w (some ⟨b, o, none⟩) 68 cap (tab 68 c)) (hb : ∀ i, i < 68 → 0 ≤ c i ∧ c i ≤ 255) (hc : ∀ i, i < 68 → w.cell? ⟨b, o + i, none⟩ = some (.int .u8 (c i))) (hcl : cleanB (tab 68 c) = false)
    (hm : c 64 = 68 ∧ c 65 = 79 ∧ c 66 = 78 ∧ c 67 = 69) (hne : num (fun i => c (60 + i)) 4 = val (more 0#32 (tab 60 c))) (hf : 1 ≤ c 0 ∧ c 0 ≤ 3 ∧ c 1 = 0 ∧ c 2 = 0 ∧ c 3 = 0) : Calls Try.prog 16 #[.slice (some ⟨b, o, none⟩) 68 cap] w fun e w' => e = .returned (.tuple #[.agg (pageA (c 0) (fun j => num (fun i => c (4 + 4 * j + i)) 4) (fun i => c (28 + i))), .int .i64 0]) ∧ Keep (fun _ => False) w w' := by
  have hka : Keep (fun _ => False) w (w.alloc (.cells noPage 30)) := (Keep.refl (fun _ => False) w).alloc _
  have H := rclean_any (hr.keep hka (fun _ _ _ e => e))
  rw [hcl] at H
  have h68 := hr.2.1
  have hcap := hr.2.2.1
  have HB0 : Bytes w b o 68 c := hc
  have HB : Bytes (w.alloc (.cells noPage 30)) b o 68 c := HB0.alloc _
  have c64 := HB 64 (by omega)
  have c65 := HB 65 (by omega)
  have c66 := HB 66 (by omega)
  have c67 := HB 67 (by omega)
  have d0 := HB 0 (by omega)
  have d1 := HB 1 (by omega)
  have d2 := HB 2 (by omega)
  have d3 := HB 3 (by omega)
  obtain ⟨m0, m1, m2, m3⟩ := hm
  rw [m0] at c64
  rw [m1] at c65
  rw [m2] at c66
  rw [m3] at c67
  have b0 := hb 0 (by omega)
  have hget := fun n => Bytes.rget (w := (w.alloc (.cells noPage 30)).drewN n) (cap := cap) HB hb 60 (by omega)
  have hsum := fun n => refsum_any (some ⟨b, o, none⟩) 60 cap (tab 60 c) ((w.alloc (.cells noPage 30)).drewN n) (by
    have := Row.sub (w := (w.alloc (.cells noPage 30)).drewN n) (cap := cap) HB hb 0 60 (by omega) (by omega) (by omega)
    simpa using this)
  simp only [hne] at hget
  clear hne
  generalize val (more 0#32 (tab 60 c)) = y at hsum hget
  rw [Nat.add_zero] at d0
  rw [noPage_eq] at H c64 c65 c66 c67 hget hsum hka d0 d1 d2 d3
  obtain ⟨x, hx⟩ : ∃ x : Nat → Int, ∀ s, x s = num (fun i => c (s + i)) 4 := ⟨_, fun _ => rfl⟩
  have HX : Hid (∀ s, x s = num (fun i => c (s + i)) 4) := hx
  have G : ∀ (s : Nat) (w' : World), Bytes w' b o 68 c → s + 4 ≤ 68 → Calls Try.prog 25 #[.slice (some ⟨b, o, none⟩) 68 cap, .int .i64 s] w' fun e w'' => e = .returned (.int .u32 (x s)) ∧ w'' = w' := fun s w' h h1 => by
    rw [hx]; exact Bytes.rget h hb s h1
  clear hx
  have hb0 := blk_alloc w _ 30 39 _ (pageA_get 0 (fun _ => 0) (fun _ => 0))
  rw [show pageA 0 (fun _ => 0) (fun _ => 0) = _ from noPage_eq] at hb0
  rw [noPage_eq] at HB
  obtain ⟨f0, f1, f2, f3, f4⟩ := hf
  rw [f2] at d1
  rw [f3] at d2
  rw [f4] at d3
  have hk := fun w => rkind_any (c 0) w
  simp only [decide_eq_true (show 1 ≤ c 0 ∧ c 0 ≤ 3 from ⟨f0, f1⟩)] at hk
  have hw0 : IntKind.i64.wrap (c 0) = c 0 := by rw [IntKind.wrap_i64]; omega
  have HP : Hid (∀ i, i < 68 → 0 ≤ c i ∧ c i ≤ 255) := hb
  clear HB0 hc hb m0 m1 m2 m3 f2 f3 f4
  generalize hk0 : c 0 = k0 at *
  have HC0 : Hid (k0 = c 0) := hk0.symm
  clear hk0
  go_enter Try.func16, Try.ntmps16
  go_wp2_with (go_at_call 17; refine H.mono ?_; rintro e w' ⟨rfl, rfl⟩)
  go_quiet ((first | (go_at_call 24; exact Calls.quiet_of_same (hsum _)) | (go_at_call 25; exact Calls.quiet_of_same (hget _))))
  clear hget hsum H
  go_wp2_with (go_at_call 13; refine (hk _).mono ?_; rintro e w' ⟨rfl, rfl⟩)
  have hb2 := hb0.keep ((Keep.refl (fun _ => False) _).drewN nq) (fun e => e)
  have HB2 : Bytes _ b o 68 c := fun i hi => HB i hi
  have HK := hka.drewN nq
  have H0 := d0
  clear HB hka hb0 d0 d1 d2 d3 c64 c65 c66 c67 hk
  generalize hw2 : (w.alloc (.cells #[Value.int .i64 0, .int .u32 0, .int .u32 0, .int .u32 0, .int .u32 0, .int .u32 0, .int .u32 0, .int .u8 0, .int .u8 0, .int .u8 0, .int .u8 0, .int .u8 0, .int .u8 0, .int .u8 0, .int .u8 0, .int .u8 0, .int .u8 0, .int .u8 0, .int .u8 0, .int .u8 0, .int .u8 0, .int .u8 0, .int .u8 0, .int .u8 0, .int .u8 0, .int .u8 0, .int .u8 0, .int .u8 0, .int .u8 0, .int .u8 0, .int .u8 0, .int .u8 0, .int .u8 0, .int .u8 0, .int .u8 0, .int .u8 0, .int .u8 0, .int .u8 0, .int .u8 0] 30)).drewN nq = w2 at hb2 HK ⊢
  have HB : Bytes w2 b o 68 c := by rw [← hw2]; exact HB2
  have H0 : w2.cell? ⟨b, o, none⟩ = some (.int .u8 k0) := by rw [← hw2]; exact H0
  clear HB2 hw2
  refine wp_region_noPanic ?_
  refine wp_region_held_drew (S := fun w' => Bytes w' b o 68 c ∧ w'.cell? ⟨b, o, none⟩ = some (.int .u8 k0)) (by kernel_rfl) ⟨HB, H0⟩ (fun hHeld => ?_)
  refine' wpAnyH_take (i := 0) (oi := { dst := some 68, op := Op.move (Operand.tmp 0), type := 23, pos := "ref.go:76", after := #[], guard := none }) (v := _) rfl (by kernel_rfl) (by kernel_rfl) (by kernel_rfl) (fun _ _ _ h => h) (Or.inl ⟨by rfl, ?hy0⟩) hHeld ?r0
  case hy0 => (intro w' hSw; (try dsimp only at hSw); go_simp; try with_reducible rfl)
  simp only [Act.put, List.setIfInBounds_toArray, List.set_cons_zero, List.set_cons_succ]
  refine' wpAnyH_take (i := 1) (oi := { dst := some 69, op := Op.indexAddr 23 (Operand.tmp 68) (Operand.const (Value.int IntKind.i64 0)), type := 0, pos := "ref.go:76", after := #[{ on := 0, ground := Ground.data }], guard := none }) (v := _) rfl (by kernel_rfl) (by kernel_rfl) (by kernel_rfl) (fun _ _ _ h => h) (Or.inl ⟨by rfl, ?hy1⟩) hHeld ?r1
  case hy1 => (intro w' hSw; (try dsimp only at hSw); go_simp; try with_reducible rfl)
  simp only [Act.put, List.setIfInBounds_toArray, List.set_cons_zero, List.set_cons_succ]
  refine' wpAnyH_take (i := 2) (oi := { dst := some 70, op := Op.load 5 (Operand.tmp 69), type := 5, pos := "ref.go:76", after := #[{ on := 1, ground := Ground.data }], guard := none }) (v := _) rfl (by kernel_rfl) (by kernel_rfl) (by kernel_rfl) (fun _ _ _ h => h) (Or.inl ⟨by rfl, ?hy2⟩) hHeld ?r2
  case hy2 => (intro w' hSw; (try dsimp only at hSw); go_simp; try with_reducible rfl)
  simp only [Act.put, List.setIfInBounds_toArray, List.set_cons_zero, List.set_cons_succ]
  refine' wpAnyH_take (i := 3) (oi := { dst := some 71, op := Op.convert 5 3 (Operand.tmp 70), type := 3, pos := "ref.go:76", after := #[{ on := 2, ground := Ground.data }], guard := none }) (v := _) rfl (by kernel_rfl) (by kernel_rfl) (by kernel_rfl) (fun _ _ _ h => h) (Or.inl ⟨by rfl, ?hy3⟩) hHeld ?r3
  case hy3 => (intro w' hSw; (try dsimp only at hSw); go_simp; try with_reducible rfl)
  simp only [Act.put, List.setIfInBounds_toArray, List.set_cons_zero, List.set_cons_succ]
  refine' wpAnyH_take (i := 4) (oi := { dst := some 72, op := Op.move (Operand.tmp 0), type := 23, pos := "ref.go:76", after := #[], guard := none }) (v := _) rfl (by kernel_rfl) (by kernel_rfl) (by kernel_rfl) (fun _ _ _ h => h) (Or.inl ⟨by rfl, ?hy4⟩) hHeld ?r4
  case hy4 => (intro w' hSw; (try dsimp only at hSw); go_simp; try with_reducible rfl)
  simp only [Act.put, List.setIfInBounds_toArray, List.set_cons_zero, List.set_cons_succ]
  refine' Calm.take (i := 5) (oi := { dst := some 73, op := Op.call { callee := Callee.value (Operand.func 25), args := #[Operand.tmp 72, Operand.const (Value.int IntKind.i64 4)], argTypes := #[23, 3] }, type := 27, pos := "ref.go:76", after := #[{ on := 4, ground := Ground.data }], guard := none }) (v := .int .u32 (x 4)) rfl (by kernel_rfl) (by kernel_rfl) (by kernel_rfl) (fun _ _ _ h => h) ⟨rfl, 25, #[.slice (some ⟨b, o, none⟩) 68 cap, .int .i64 4], fun w' hw' => ⟨?hr5, G 4 _ hw'.1 (by omega)⟩⟩ hHeld ?r5
  case hr5 => rw [execOp_call_go, call25]; simp [Act.eval]
  simp only [Act.put, List.setIfInBounds_toArray, List.set_cons_zero, List.set_cons_succ]
  refine' wpAnyH_take (i := 6) (oi := { dst := some 74, op := Op.move (Operand.tmp 0), type := 23, pos := "ref.go:76", after := #[], guard := none }) (v := _) rfl (by kernel_rfl) (by kernel_rfl) (by kernel_rfl) (fun _ _ _ h => h) (Or.inl ⟨by rfl, ?hy6⟩) hHeld ?r6
  case hy6 => (intro w' hSw; (try dsimp only at hSw); go_simp; try with_reducible rfl)
  simp only [Act.put, List.setIfInBounds_toArray, List.set_cons_zero, List.set_cons_succ]
  refine' Calm.take (i := 7) (oi := { dst := some 75, op := Op.call { callee := Callee.value (Operand.func 25), args := #[Operand.tmp 74, Operand.const (Value.int IntKind.i64 8)], argTypes := #[23, 3] }, type := 27, pos := "ref.go:76", after := #[{ on := 6, ground := Ground.data }, { on := 5, ground := Ground.chain }], guard := none }) (v := .int .u32 (x 8)) rfl (by kernel_rfl) (by kernel_rfl) (by kernel_rfl) (fun _ _ _ h => h) ⟨rfl, 25, #[.slice (some ⟨b, o, none⟩) 68 cap, .int .i64 8], fun w' hw' => ⟨?hr7, G 8 _ hw'.1 (by omega)⟩⟩ hHeld ?r7
  case hr7 => rw [execOp_call_go, call25]; simp [Act.eval]
  simp only [Act.put, List.setIfInBounds_toArray, List.set_cons_zero, List.set_cons_succ]
  refine' wpAnyH_take (i := 8) (oi := { dst := some 76, op := Op.move (Operand.tmp 0), type := 23, pos := "ref.go:76", after := #[], guard := none }) (v := _) rfl (by kernel_rfl) (by kernel_rfl) (by kernel_rfl) (fun _ _ _ h => h) (Or.inl ⟨by rfl, ?hy8⟩) hHeld ?r8
  case hy8 => (intro w' hSw; (try dsimp only at hSw); go_simp; try with_reducible rfl)
  simp only [Act.put, List.setIfInBounds_toArray, List.set_cons_zero, List.set_cons_succ]
  refine' Calm.take (i := 9) (oi := { dst := some 77, op := Op.call { callee := Callee.value (Operand.func 25), args := #[Operand.tmp 76, Operand.const (Value.int IntKind.i64 12)], argTypes := #[23, 3] }, type := 27, pos := "ref.go:76", after := #[{ on := 8, ground := Ground.data }, { on := 7, ground := Ground.chain }], guard := none }) (v := .int .u32 (x 12)) rfl (by kernel_rfl) (by kernel_rfl) (by kernel_rfl) (fun _ _ _ h => h) ⟨rfl, 25, #[.slice (some ⟨b, o, none⟩) 68 cap, .int .i64 12], fun w' hw' => ⟨?hr9, G 12 _ hw'.1 (by omega)⟩⟩ hHeld ?r9
  case hr9 => rw [execOp_call_go, call25]; simp [Act.eval]
  simp only [Act.put, List.setIfInBounds_toArray, List.set_cons_zero, List.set_cons_succ]
  refine' wpAnyH_take (i := 10) (oi := { dst := some 78, op := Op.move (Operand.tmp 0), type := 23, pos := "ref.go:76", after := #[], guard := none }) (v := _) rfl (by kernel_rfl) (by kernel_rfl) (by kernel_rfl) (fun _ _ _ h => h) (Or.inl ⟨by rfl, ?hy10⟩) hHeld ?r10
  case hy10 => (intro w' hSw; (try dsimp only at hSw); go_simp; try with_reducible rfl)
  simp only [Act.put, List.setIfInBounds_toArray, List.set_cons_zero, List.set_cons_succ]
  refine' Calm.take (i := 11) (oi := { dst := some 79, op := Op.call { callee := Callee.value (Operand.func 25), args := #[Operand.tmp 78, Operand.const (Value.int IntKind.i64 16)], argTypes := #[23, 3] }, type := 27, pos := "ref.go:76", after := #[{ on := 10, ground := Ground.data }, { on := 9, ground := Ground.chain }], guard := none }) (v := .int .u32 (x 16)) rfl (by kernel_rfl) (by kernel_rfl) (by kernel_rfl) (fun _ _ _ h => h) ⟨rfl, 25, #[.slice (some ⟨b, o, none⟩) 68 cap, .int .i64 16], fun w' hw' => ⟨?hr11, G 16 _ hw'.1 (by omega)⟩⟩ hHeld ?r11
  case hr11 => rw [execOp_call_go, call25]; simp [Act.eval]
  simp only [Act.put, List.setIfInBounds_toArray, List.set_cons_zero, List.set_cons_succ]
  refine' wpAnyH_take (i := 12) (oi := { dst := some 80, op := Op.move (Operand.tmp 0), type := 23, pos := "ref.go:76", after := #[], guard := none }) (v := _) rfl (by kernel_rfl) (by kernel_rfl) (by kernel_rfl) (fun _ _ _ h => h) (Or.inl ⟨by rfl, ?hy12⟩) hHeld ?r12
  case hy12 => (intro w' hSw; (try dsimp only at hSw); go_simp; try with_reducible rfl)
  simp only [Act.put, List.setIfInBounds_toArray, List.set_cons_zero, List.set_cons_succ]
  refine' Calm.take (i := 13) (oi := { dst := some 81, op := Op.call { callee := Callee.value (Operand.func 25), args := #[Operand.tmp 80, Operand.const (Value.int IntKind.i64 20)], argTypes := #[23, 3] }, type := 27, pos := "ref.go:76", after := #[{ on := 12, ground := Ground.data }, { on := 11, ground := Ground.chain }], guard := none }) (v := .int .u32 (x 20)) rfl (by kernel_rfl) (by kernel_rfl) (by kernel_rfl) (fun _ _ _ h => h) ⟨rfl, 25, #[.slice (some ⟨b, o, none⟩) 68 cap, .int .i64 20], fun w' hw' => ⟨?hr13, G 20 _ hw'.1 (by omega)⟩⟩ hHeld ?r13
  case hr13 => rw [execOp_call_go, call25]; simp [Act.eval]
  simp only [Act.put, List.setIfInBounds_toArray, List.set_cons_zero, List.set_cons_succ]
  refine' wpAnyH_take (i := 14) (oi := { dst := some 82, op := Op.move (Operand.tmp 0), type := 23, pos := "ref.go:76", after := #[], guard := none }) (v := _) rfl (by kernel_rfl) (by kernel_rfl) (by kernel_rfl) (fun _ _ _ h => h) (Or.inl ⟨by rfl, ?hy14⟩) hHeld ?r14
  case hy14 => (intro w' hSw; (try dsimp only at hSw); go_simp; try with_reducible rfl)
  simp only [Act.put, List.setIfInBounds_toArray, List.set_cons_zero, List.set_cons_succ]
  refine' Calm.take (i := 15) (oi := { dst := some 83, op := Op.call { callee := Callee.value (Operand.func 25), args := #[Operand.tmp 82, Operand.const (Value.int IntKind.i64 24)], argTypes := #[23, 3] }, type := 27, pos := "ref.go:76", after := #[{ on := 14, ground := Ground.data }, { on := 13, ground := Ground.chain }], guard := none }) (v := .int .u32 (x 24)) rfl (by kernel_rfl) (by kernel_rfl) (by kernel_rfl) (fun _ _ _ h => h) ⟨rfl, 25, #[.slice (some ⟨b, o, none⟩) 68 cap, .int .i64 24], fun w' hw' => ⟨?hr15, G 24 _ hw'.1 (by omega)⟩⟩ hHeld ?r15
  case hr15 => rw [execOp_call_go, call25]; simp [Act.eval]
  simp only [Act.put, List.setIfInBounds_toArray, List.set_cons_zero, List.set_cons_succ]
  refine' wpAnyH_take (i := 16) (oi := { dst := some 84, op := Op.build 30 #[(0, Operand.tmp 71), (1, Operand.tmp 73), (2, Operand.tmp 75), (3, Operand.tmp 77), (4, Operand.tmp 79), (5, Operand.tmp 81), (6, Operand.tmp 83)], type := 30, pos := "ref.go:76", after := #[{ on := 3, ground := Ground.data }, { on := 5, ground := Ground.data }, { on := 7, ground := Ground.data }, { on := 9, ground := Ground.data }, { on := 11, ground := Ground.data }, { on := 13, ground := Ground.data }, { on := 15, ground := Ground.data }], guard := none }) (v := _) rfl (by kernel_rfl) (by kernel_rfl) (by kernel_rfl) (fun _ _ _ h => h) (Or.inl ⟨by rfl, ?hy16⟩) hHeld ?r16
  case hy16 => (intro w' hSw; (try dsimp only at hSw); go_simp; try with_reducible rfl)
  simp only [Act.put, List.setIfInBounds_toArray, List.set_cons_zero, List.set_cons_succ]
  have hb3 := blk_alloc w2.drew _ 30 39 _ (pageA_get 0 (fun _ => 0) (fun _ => 0))
  have hk3 : Keep (fun _ => False) w2 (w2.drew.alloc (.cells (pageA 0 (fun _ => 0) (fun _ => 0)) 30)) := ((Keep.refl _ _).drew).alloc _
  rw [show pageA 0 (fun _ => 0) (fun _ => 0) = _ from noPage_eq] at hb3 hk3
  refine wpAnyH_ready (rs := [17]) (by kernel_rfl) (by simp) ?_
  refine AllReadyH.cons (o := { dst := some 4, op := Op.alloc 30, type := 0, pos := "ref.go:76", after := #[], guard := none }) rfl (fun K hK => ?_) AllReadyH.nil
  go_simp
  refine hK.out _ _ ⟨HB.drew.alloc _, (HB.drew.alloc _).at0' H0 (by omega) HB⟩ (fun hHeld2 => ?_)
  clear hK K hHeld
  obtain ⟨w4, hst, hb4, hk4⟩ := store_page hb3 k0 (fun j => x (4 + 4 * j)) (fun _ => 0)
  refine wpAnyH_ready (rs := [18]) (by kernel_rfl) (by simp) ?_
  refine AllReadyH.cons (o := { dst := none, op := Op.store 30 (Operand.tmp 4) (Operand.tmp 84), type := 0, pos := "ref.go:76", after := #[{ on := 17, ground := Ground.data }, { on := 16, ground := Ground.data }, { on := 15, ground := Ground.chain }, { on := 0, ground := Ground.phase }, { on := 1, ground := Ground.phase }, { on := 2, ground := Ground.phase }, { on := 3, ground := Ground.phase }, { on := 4, ground := Ground.phase }, { on := 5, ground := Ground.phase }, { on := 6, ground := Ground.phase }, { on := 7, ground := Ground.phase }, { on := 8, ground := Ground.phase }, { on := 9, ground := Ground.phase }, { on := 10, ground := Ground.phase }, { on := 11, ground := Ground.phase }, { on := 12, ground := Ground.phase }, { on := 13, ground := Ground.phase }, { on := 14, ground := Ground.phase }, { on := 15, ground := Ground.phase }, { on := 16, ground := Ground.phase }, { on := 17, ground := Ground.phase }], guard := none }) rfl (fun K hK => ?_) AllReadyH.nil
  refine step_store_run rfl 30 (.tmp 4) (.tmp 84) rfl (by rfl) (by rfl) hst ?_
  have e2 : w2.drew.heap.size = w2.heap.size := rfl
  have HB4 : Bytes w4 b o 68 c := fun i hi => by
    have := HB i hi
    rw [← this]
    have hlt := World.block_lt_of_cell? w2 _ this
    refine World.cell?_of_block (w := w2) (a := ⟨b, o + i, none⟩) ((hk4.block b ?_ ?_).trans (hk3.block b hlt (fun e => e)))
    · have := hk3.size; simp only at hlt; omega
    · simp only at hlt; omega
  refine hK.out _ _ ⟨HB4, HB4.at0' H0 (by omega) HB⟩ (fun hHeld3 => ?_)
  clear hK K hHeld2 hHeld3
  refine wpAnyH_done (by kernel_rfl) ?_ _
  refine NoPanic.normal ?_
  have hlt0 : b < w2.heap.size := by have := World.block_lt_of_cell? w2 _ H0; simpa using this
  have hltw := hb2.lt (by omega)
  have hbz4 : Blk w4 w.heap.size 39 (pcell 0 (fun _ => 0) (fun _ => 0)) := (hb2.keep hk3 (fun e => e)).keep hk4 (by omega)
  have HK4 : Keep (fun _ => False) w w4 := (HK.trans hk3).next hk4 (fun y hy e => by have := HK.size; omega)
  have hsz := HK.size
  have hb4' : Blk w4 w2.heap.size 39 (pcell k0 (fun j => x (4 + 4 * j)) (fun _ => 0)) := hb4
  clear hst hb3 hk3 hk4 HK hb2 HB hb4 H0 G
  go_wp2_with fail
  go_loopw [5] (fun i wr => ∃ q : Nat, q ≤ 32 ∧ i = .int .i64 q ∧ Blk wr w2.heap.size 39 (pcell k0 (fun j => x (4 + 4 * j)) (fun i => if i < q then c (28 + i) else 0)) ∧ Bytes wr b o 68 c ∧ Blk wr w.heap.size 39 (pcell 0 (fun _ => 0) (fun _ => 0)) ∧ Keep (fun _ => False) w wr) (fun i _ => 32 - (intOf i).toNat)
  case atStart => exact ⟨0, by omega, rfl, hb4'.congr (fun i hi => by unfold pcell; simp), HB4, hbz4, HK4⟩
  case round =>
    obtain ⟨q, hq, rfl, hb5, HB5, hbz5, HK5⟩ := hrel
    clear hb4' HB4 hbz4 HK4
    by_cases hlt : q < 32
    · have hc := (hb5 (7 + q) (by omega)).1
      have hf := (hb5 (7 + q) (by omega)).2
      have hcb := HB5 (28 + q) (by omega)
      have hq32 : (q : Int) < 32 := by omega
      generalize hcq : c (28 + q) = z at hcb
      have HZ : Hid (c (28 + q) = z) := hcq
      clear hcq
      go_wp2_with fail
      refine ⟨⟨q + 1, by omega, by go_num, (hb5.set (7 + q) _).congr (fun i hi => ?_), ?_, hbz5.other (by simp; omega) _, HK5.setCell (Or.inr hsz) _⟩, by simp [intOf]; omega⟩
      · have := pay_step (k := k0) (v := fun j => x (4 + 4 * j)) (c := fun i => c (28 + i)) (q := q) (i := i)
        rw [← this]
        by_cases e : i = 7 + q
        · rw [if_pos e, if_pos e]; show _ = Value.int .u8 (c (28 + q)); rw [HZ.out]
        · rw [if_neg e, if_neg e]
      · intro i hi
        rw [World.cell?_setCell_other (h := fun e => by have := congrArg Addr.block e; simp at this; omega)]
        exact HB5 i hi
    · obtain rfl : q = 32 := by omega
      have hb6 := hb5.congr (g := pcell k0 (fun j => x (4 + 4 * j)) (fun i => c (28 + i))) (fun i hi => pcell_congr (fun _ _ => rfl) (fun i hi => by rw [if_pos hi]) hi)
      obtain ⟨w6, hst, hb7, hk7⟩ := store_page hbz5 k0 (fun j => x (4 + 4 * j)) (fun i => c (28 + i))
      have hld := loadAt_page hb6
      have hld2 := load_page hb7
      have HK6 : Keep (fun _ => False) w w6 := HK5.next hk7 (fun y hy e => by omega)
      have hpg : pageA k0 (fun j => x (4 + 4 * j)) (fun i => c (28 + i)) = pageA (c 0) (fun j => num (fun i => c (4 + 4 * j + i)) 4) (fun i => c (28 + i)) := by
        have h1 : k0 = c 0 := HC0.out
        have h2 : (fun j => x (4 + 4 * j)) = fun j => num (fun i => c (4 + 4 * j + i)) 4 := funext fun j => HX.out _
        rw [h1, h2]
      have HPG : Hid (pageA k0 (fun j => x (4 + 4 * j)) (fun i => c (28 + i)) = pageA (c 0) (fun j => num (fun i => c (4 + 4 * j + i)) 4) (fun i => c (28 + i))) := hpg
      clear hpg hb5 hb6 hbz5 hb7 hk7 HB5 HK5
      generalize pageA k0 (fun j => x (4 + 4 * j)) (fun i => c (28 + i)) = A at hst hld hld2 HPG
      go_wp2_with (first | refine wpList_load_run rfl 30 (.tmp 4) rfl (by rfl) hld ?_ | refine wpList_store_run rfl 30 (.tmp 2) (.tmp 97) rfl (by rfl) (by rfl) hst ?_)
      refine bodyPost_ret (v := .tuple #[.agg A, .int .i64 0]) ?_ rfl ⟨by rw [← HC0.out] at *; rw [HPG.out], HK6⟩
      rw [results_cell_tmp rfl]
      simp [asAddr, Result.andThen, hld2]

end Tg
end Go.Proofs.Ytgohmjidbbecpaa
