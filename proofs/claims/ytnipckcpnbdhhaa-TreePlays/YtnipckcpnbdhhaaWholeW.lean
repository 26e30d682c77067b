/-
  The statement's own look at the whole tree: whole answers true where the tree has just the list's runs.
-/
import Derived.Test.YtnipckcpnbdhhaaHangsW
namespace Go.Proofs.Ytnipckcpnbdhhaa
open Go.ChangeShapes Go.WideShapes Go.ChangeAt Go.RowKit
namespace Tg

theorem Hang.view {s : Ar} : ∀ {t : Tr} {v : Vw}, Hang s t → v ∈ t.views → (1 ≤ v.id ∧ v.id ≤ s.N ∧ s.live v.id = true) ∧ ∀ j, j < 6 → s.fld v.id j = nf v.left v.right v.h v.x j
  | .nil, v, _, hv => by simp [Tr.views] at hv
  | .node i l x r, v, h, hv => by
    simp only [Tr.views, List.mem_append, List.mem_cons] at hv
    obtain ⟨⟨v1, v2, v3, v4⟩, hl, hr⟩ := h
    rcases hv with hv | rfl | hv
    · exact Hang.view hl hv
    · exact ⟨⟨v1, v2, v3⟩, fun j hj => by rw [v4 j hj]; rfl⟩
    · exact Hang.view hr hv
theorem Mt.get {w wr : World} {b p k N : Nat} {l : List Nat} {t : Tr} (h : Mt w wr b p k N l t) {v : Vw} (hv : v ∈ t.views) :
    1 ≤ v.id ∧ Calls Try.prog 35 #[.pointer (some ⟨p, 0, none⟩), .int .u32 (v.id : Int)] wr fun e w' => e = .returned (.tuple #[.agg #[.int .u32 (v.left : Int), .int .u32 (v.right : Int), .int .i64 v.h, .int .i64 v.x.lba, .int .i64 v.x.len, .int .i64 v.x.phys], .int .i64 0]) ∧ Keep (fun _ => False) wr w' := by
  obtain ⟨s, hT, hN⟩ := h.ex
  obtain ⟨⟨h1, h2, h3⟩, h4⟩ := hT.hang.view hv
  refine ⟨h1, ?_⟩
  obtain ⟨q, hq⟩ : ∃ q, v.id = q + 1 := ⟨v.id - 1, by omega⟩
  rw [hq] at h2 h3 h4
  rw [hq]
  have := get_any hT.mem (q := q) (by omega) hT.ok.small h3
  rw [nodeA_congr h4, nodeA_nf] at this
  exact this

set_option maxRecDepth 100000 in
set_option maxHeartbeats 4000000 in
theorem whole_any {w0 w : World} {b p k N : Nat} {l : List Nat} {t : Tr} {a : Option Addr} {cap : Nat} (h : Mt w0 w b p k N l t) (hr : Rs w a cap t.runs) (hl : t.runs.length ≤ 512) :
    Calls Try.prog 20 #[.pointer (some ⟨b, 0, none⟩), .pointer (some ⟨p, 0, none⟩), .slice a t.runs.length cap] w fun e w' => e = .returned (.bool true) ∧ Keep (fun _ => False) w w' := by
  have hvl : t.views.length = t.runs.length := by rw [← Tr.views_runs]; simp
  have hvr := Tr.views_runs t
  have call := h.all
  rw [hvl] at call
  have d0 : (t.runs.length : Int) ≤ 9223372036854775807 := by omega
  have d1 : t.runs.length ≤ cap := hr.1
  go_enter Try.func20, Try.ntmps20
  go_wp2_with fail
  refine call.mono ?_
  rintro e w1 ⟨rfl, R1, k1⟩
  have h1 := h.more k1
  have cv := h1.views
  rw [hvl] at cv
  generalize w.heap.size = GA at R1 ⊢
  clear call
  go_wp2_with fail
  refine cv.mono ?_
  rintro e w2 ⟨rfl, V2, k2⟩
  have h2 := h1.more k2
  have R2 := R1.more k2
  have r2 := hr.more (k1.trans k2)
  have K2 := k1.trans k2
  generalize w1.heap.size = GV at V2 ⊢
  have clen := h2.len
  have cliv := h2.live
  rw [hvl] at clen cliv
  clear cv h1 R1 k1 k2 h hr
  have hn' : Hid (t.runs.length ≤ 512) := hl
  have hvl' : Hid (t.views.length = t.runs.length) := hvl
  have hvr' : Hid (t.views.map (·.x) = t.runs) := hvr
  clear hl hvl hvr
  go_wp2_with fail
  refine clen.mono ?_
  rintro e wz ⟨rfl, e0⟩
  have e0 := e0.symm
  subst e0
  go_wp2_with fail
  refine cliv.mono ?_
  rintro e wz ⟨rfl, e0⟩
  have e0 := e0.symm
  subst e0
  clear clen cliv
  go_wp2_with fail
  go_loopw [9] (fun c wr => ∃ i : Nat, i ≤ t.runs.length ∧ c = .int .i64 (i : Int) ∧ Keep (fun _ => False) w2 wr) (fun c _ => t.runs.length - (intOf c).toNat)
  case atStart => exact ⟨0, by omega, rfl, Keep.refl _ _⟩
  case round =>
    obtain ⟨i, hi, rfl, hK⟩ := hrel
    by_cases hlt : i < t.runs.length
    · have di : (i : Int) < (t.runs.length : Int) := by omega
      have di1 : IntKind.i64.wrap ((i : Int) + 1) = (i : Int) + 1 := by have : t.runs.length ≤ 512 := hn'; rw [IntKind.wrap_i64]; omega
      have hlt' : Hid (i < t.runs.length) := hlt
      obtain ⟨v, hv⟩ : ∃ v, t.views[i]? = some v := ⟨_, List.getElem?_eq_getElem (by rw [(show t.views.length = t.runs.length from hvl')]; exact hlt)⟩
      have hx : t.runs[i]? = some v.x := by rw [← (show t.views.map (·.x) = t.runs from hvr'), List.getElem?_map, hv]; rfl
      have hm : v ∈ t.views := List.mem_of_getElem? hv
      obtain ⟨g, rfl, -⟩ := r2.at hx
      have hA : ∀ w', Keep (fun _ => False) w2 w' → w'.cell? ⟨g, i * 3, none⟩ = some (.int .i64 v.x.lba) ∧ w'.cell? ⟨g, i * 3 + 1, none⟩ = some (.int .i64 v.x.len) ∧ w'.cell? ⟨g, i * 3 + 2, none⟩ = some (.int .i64 v.x.phys) := fun w' hk => by
        obtain ⟨g', e, hc⟩ := (r2.more hk).at hx
        simp only [Option.some.injEq, Addr.mk.injEq, and_true] at e
        subst e; exact hc
      have hV : ∀ w', Keep (fun _ => False) w2 w' → _ := fun w' hk => view_cells (V2.more hk) hv
      have Rx := R2.more hK
      have b0 : wr.cell? ⟨GA, i * 3, none⟩ = some (.int .i64 v.x.lba) := Rx.cells (i * 3 + 0) _ (by rw [rcells_at hx 0 (by omega)]; rfl)
      have b1 : wr.cell? ⟨GA, i * 3 + 1, none⟩ = some (.int .i64 v.x.len) := Rx.cells (i * 3 + 1) _ (by rw [rcells_at hx 1 (by omega)]; rfl)
      have b2 : wr.cell? ⟨GA, i * 3 + 2, none⟩ = some (.int .i64 v.x.phys) := Rx.cells (i * 3 + 2) _ (by rw [rcells_at hx 2 (by omega)]; rfl)
      obtain ⟨a0, a1, a2⟩ := hA wr hK
      obtain ⟨c0, c1, c2, c3, c4, c5, c6⟩ := hV wr hK
      have hid := ((h2.more hK).get hm).1
      have did : ((v.id : Int) == 0) = false := by simp; omega
      clear Rx hlt hx c1 c2 c3
      go_wp2_with fail
      go_quiet (fail)
      have K3 := hK.drewN nq
      generalize wr.drewN nq = w3 at K3 ⊢
      clear a0 a1 a2 b0 b1 b2 c0 c4 c5 c6 hK
      obtain ⟨c0, -⟩ := hV w3 K3
      have cget := ((h2.more K3).get hm).2
      go_wp2_with fail
      refine cget.mono ?_
      rintro e w4 ⟨rfl, k4⟩
      clear cget c0
      have K5 : Keep (fun _ => False) w2 (w4.alloc (.cells (nodeA (nf v.left v.right v.h v.x)) 62)) := (K3.trans k4).alloc _
      have L5 := Loc.new w4 v.left v.right v.h v.x
      rw [nodeA_nf] at K5 L5
      go_upto_region 11 with fail
      generalize w4.alloc (.cells #[.int .u32 (v.left : Int), .int .u32 (v.right : Int), .int .i64 v.h, .int .i64 v.x.lba, .int .i64 v.x.len, .int .i64 v.x.phys] 62) = w5 at K5 L5 ⊢
      generalize w4.heap.size = gn at L5 ⊢
      obtain ⟨a0, a1, a2⟩ := hA w5 K5
      obtain ⟨c0, c1, c2, c3, -, -, -⟩ := hV w5 K5
      obtain ⟨n0, n1, n2, n3, n4, n5⟩ := L5.six
      clear L5 k4 K3 hA hV c0
      go_quiet (fail)
      have K6 := K5.drewN nq
      generalize w5.drewN nq = w6 at K6 ⊢
      clear a0 a1 a2 c1 c2 c3 n0 n1 n2 n3 n4 n5 K5
      go_wp2_with fail
      go_roundw
      case rel => exact ⟨i + 1, hlt', by go_num, K6⟩
      case measure => have : i < t.runs.length := hlt'; simp [intOf]; omega
    · have di : ¬ (i : Int) < (t.runs.length : Int) := by omega
      have h3 := h2.more hK
      have V3 := V2.more hK
      have HK := K2.trans hK
      have croot := h3.root
      by_cases hz : t.runs.length = 0
      · have ht : t = .nil := nil_of (by rw [(show t.views.length = t.runs.length from hvl')]; omega)
        have hl0 : ((t.link : Nat) : Int) = 0 := by rw [ht]; rfl
        rw [hl0] at croot
        have dz : ((t.runs.length : Nat) : Int) = 0 := by omega
        clear ht hl0 hz V3 h3 V2 R2 r2 h2
        go_wp2_with fail
        refine croot.mono ?_
        rintro e wz ⟨rfl, e0⟩
        have e0 := e0.symm
        subst e0
        go_wp2_with fail
        go_ret
        exact ⟨rfl, HK⟩
      · have dz : (((t.runs.length : Nat) : Int) == 0) = false := by rw [beq_eq_false_iff_ne]; omega
        have hnn : t ≠ .nil := views_nil.1 (by rw [(show t.views.length = t.runs.length from hvl')]; omega)
        have ch : Calls Try.prog 36 #[.slice (some ⟨GV, 0, none⟩) t.runs.length t.runs.length, .int .i64 0, .int .i64 (t.runs.length : Int), .int .u32 (t.link : Int)] wr fun e w' => e = .returned (.int .i64 (t.h : Int)) ∧ w' = wr := by
          obtain ⟨s, hT, -⟩ := h3.ex
          have := hangs_any (V := t.views) (by rw [(show t.views.length = t.runs.length from hvl')]; exact V3) (by rw [(show t.views.length = t.runs.length from hvl')]; exact hn') t hT.nd hT.bal hT.ids1 hnn [] [] (by simp)
          simp only [List.length_nil, Nat.zero_add] at this
          rw [(show t.views.length = t.runs.length from hvl')] at this
          exact this
        have hth : Hid (0 < t.h) := h_nil hnn
        have hz' : Hid (¬ t.runs.length = 0) := hz
        clear hz V3 h3 V2 R2 r2 h2 hnn
        go_wp2_with fail
        refine croot.mono ?_
        rintro e wz ⟨rfl, e0⟩
        have e0 := e0.symm
        subst e0
        go_wp2_with fail
        refine ch.mono ?_
        rintro e wz ⟨rfl, e0⟩
        have e0 := e0.symm
        subst e0
        go_wp2_with fail
        go_ret
        exact ⟨ret_bool (decide_eq_true hth), HK⟩
end Tg
end Go.Proofs.Ytnipckcpnbdhhaa
