/-
  The program's sizes.
-/
import Derived.Test.YtoobjmhllfeffaaYb
namespace Go.Proofs.Ytoobjmhllfeffaa
open Go.ChangeShapes Go.WideShapes Go.ChangeAt Go.RowKit
namespace Tg
theorem load_sp {w : World} {q : Nat} {a0 a1 a2 a3 a4 a5 a6 a7 a8 a9 a10 : Int} (h : Blk w q 11 (scell [a0, a1, a2, a3, a4, a5, a6, a7, a8, a9, a10])) : (loadVar 24 ⟨q, 0, none⟩).run Try.prog w = .ok (.agg #[.int .i64 a0, .int .i64 a1, .int .i64 a2, .int .i64 a3, .int .i64 a4, .int .i64 a5, .int .i64 a6, .int .i64 a7, .int .i64 a8, .int .i64 a9, .int .i64 a10]) w := by
  have c0 : w.cell? ⟨q, 0, none⟩ = some (.int .i64 a0) := (h 0 (by omega)).1
  have c1 : w.cell? ⟨q, 1, none⟩ = some (.int .i64 a1) := (h 1 (by omega)).1
  have c2 : w.cell? ⟨q, 2, none⟩ = some (.int .i64 a2) := (h 2 (by omega)).1
  have c3 : w.cell? ⟨q, 3, none⟩ = some (.int .i64 a3) := (h 3 (by omega)).1
  have c4 : w.cell? ⟨q, 4, none⟩ = some (.int .i64 a4) := (h 4 (by omega)).1
  have c5 : w.cell? ⟨q, 5, none⟩ = some (.int .i64 a5) := (h 5 (by omega)).1
  have c6 : w.cell? ⟨q, 6, none⟩ = some (.int .i64 a6) := (h 6 (by omega)).1
  have c7 : w.cell? ⟨q, 7, none⟩ = some (.int .i64 a7) := (h 7 (by omega)).1
  have c8 : w.cell? ⟨q, 8, none⟩ = some (.int .i64 a8) := (h 8 (by omega)).1
  have c9 : w.cell? ⟨q, 9, none⟩ = some (.int .i64 a9) := (h 9 (by omega)).1
  have c10 : w.cell? ⟨q, 10, none⟩ = some (.int .i64 a10) := (h 10 (by omega)).1
  go_simp
/-- A call that writes the sizes under way. -/
theorem Ob.wrote {w0 w w' : World} {g h q : Nat} {c : Cf} {l l2 : List Int} (o : Ob w0 w g h q c l) (k : Keep (fun b => b = h) w w') (B : Blk w' h 11 (scell l2)) : Ob w0 w' g h q c l2 :=
  ⟨o.cf.keep k o.ne.1, B, o.rs.keep k o.ne.2, o.ne, o.lo, o.kp.next k (fun x hx e => by have := o.lo.1; omega)⟩
set_option maxRecDepth 100000 in
set_option maxHeartbeats 4000000 in
theorem sizes_any (w : World) {c : Cf} (hs : Span c) : Calls Try.prog 22 #[.agg #[.int .i64 c.b, .int .i64 c.p, .int .i64 c.c, .int .i64 c.s, .int .i64 c.m, .int .i64 c.w, .bool c.f]] w fun e w' => e = .returned (.agg #[.int .i64 (rbI c), .int .i64 (spI c), .int .i64 (omI c), .int .i64 (obI c), .int .i64 (rpI c), .int .i64 (lpI c), .int .i64 (ebI c), .int .i64 (mbI c), .int .i64 (wnI c), .int .i64 (slI c), .int .i64 (mrI c)]) ∧ Keep (fun _ => False) w w' := by
  have hsn : ∀ {w : World} {h : Nat}, Blk w h 11 (scell [0, 0, 0, 0, 0, 0, 0, 0, 0, 0, 0]) → Calls Try.prog 31 #[.pointer (some ⟨h, 0, none⟩), .agg #[.int .i64 c.b, .int .i64 c.p, .int .i64 c.c, .int .i64 c.s, .int .i64 c.m, .int .i64 c.w, .bool c.f]] w fun e w' => e = .returned (.tuple #[]) ∧ Keep (fun b => b = h) w w' ∧ Blk w' h 11 (scell [rbI c, spI c, 0, 0, 0, 0, 0, 0, 0, 0, 0]) := fun B => addSnapshot_any hs B
  have hrc : ∀ {w : World} {h : Nat}, Blk w h 11 (scell [rbI c, spI c, 0, 0, 0, 0, 0, 0, 0, 0, 0]) → Calls Try.prog 32 #[.pointer (some ⟨h, 0, none⟩), .agg #[.int .i64 c.b, .int .i64 c.p, .int .i64 c.c, .int .i64 c.s, .int .i64 c.m, .int .i64 c.w, .bool c.f]] w fun e w' => e = .returned (.tuple #[]) ∧ Keep (fun b => b = h) w w' ∧ Blk w' h 11 (scell [rbI c, spI c, omI c, obI c, rpI c, 0, 0, 0, 0, 0, 0]) := fun B => addRecord_any hs B
  have hsp := sp_bd hs
  have hup := up_p_bd hs
  have hrp := rp_bd hs
  have hlp := lp_bd hs
  have heb := eb_bd hs
  have hus := us_bd hs
  have hmb := mb_bd hs
  have hwn := wn_bd hs
  have hsl := sl_bd hs
  have hpe := pe_bd hs
  obtain ⟨b1, b2, p1, p2, s1, s2, c1, c2, w1, w2, w3, m1, m2⟩ := hs
  have eE10 : lpI c = 2 * rpI c + c.p + spI c := rfl
  have eE11 : ebI c = upI (spI c + lpI c) c.p := rfl
  have eE12 : mbI c = ebI c + upI (spI c) c.p + 3 := rfl
  have eE13 : wnI c = upI c.c c.w := rfl
  have eE14 : slI c = upI c.c c.p + 8 + 4 * c.s := rfl
  have eE15 : mrI c = c.b + 2 * c.p * (ebI c + 2 + c.s) := rfl
  have gU : ∀ a b : Int, 0 ≤ a → 1 ≤ b → a ≤ 1000000000 → b ≤ 1000000000 → ∀ w : World, Calls Try.prog 33 #[.int .i64 (a), .int .i64 (b)] w fun e w' => e = .returned (.int .i64 (upI a b)) ∧ Keep (fun _ => False) w w' := fun a b h0 h1 h2 h3 w => same_keep (up_any h0 h1 h2 h3 w)
  have kU := gU c.c c.p (by omega) (by omega) (by omega) (by omega)
  have k11 := gU (spI c + lpI c) c.p (by omega) (by omega) (by omega) (by omega)
  have k12 := gU (spI c) c.p (by omega) (by omega) (by omega) (by omega)
  have k13 := gU c.c c.w (by omega) (by omega) (by omega) (by omega)
  rw [← eE11] at k11
  rw [← eE13] at k13
  have q10a := wrapI (x := 2 * rpI c) (by omega) (by omega)
  have q10b := wrapI (x := 2 * rpI c + c.p) (by omega) (by omega)
  have q10c : IntKind.i64.wrap (2 * rpI c + c.p + spI c) = lpI c := by rw [← eE10]; exact wrapI (by omega) (by omega)
  have q11 := wrapI (x := spI c + lpI c) (by omega) (by omega)
  have q12a := wrapI (x := ebI c + upI (spI c) c.p) (by omega) (by omega)
  have q12b : IntKind.i64.wrap (ebI c + upI (spI c) c.p + 3) = mbI c := by rw [← eE12]; exact wrapI (by omega) (by omega)
  have q14a := wrapI (x := upI c.c c.p + 8) (by omega) (by omega)
  have q14b := wrapI (x := 4 * c.s) (by omega) (by omega)
  have q14c : IntKind.i64.wrap (upI c.c c.p + 8 + 4 * c.s) = slI c := by rw [← eE14]; exact wrapI (by omega) (by omega)
  have q15a := wrapI (x := 2 * c.p) (by omega) (by omega)
  have q15b := wrapI (x := ebI c + 2) (by omega) (by omega)
  have q15c := wrapI (x := ebI c + 2 + c.s) (by omega) (by omega)
  have q15d := wrapI (x := 2 * c.p * (ebI c + 2 + c.s)) (by omega) (by omega)
  have q15e : IntKind.i64.wrap (c.b + 2 * c.p * (ebI c + 2 + c.s)) = mrI c := by rw [← eE15]; exact wrapI (by omega) (by omega)
  clear gU eE10 eE11 eE12 eE13 eE14 eE15 hsp hrp hlp heb hus hmb hwn hsl hpe hup b1 b2 p1 p2 s1 s2 c1 c2 w1 w2 w3 m1 m2
  obtain ⟨PE, hPE⟩ : ∃ x, x = 2 * c.p * (ebI c + 2 + c.s) := ⟨_, rfl⟩
  rw [← hPE] at q15e
  replace q15d : IntKind.i64.wrap (2 * c.p * (ebI c + 2 + c.s)) = PE := by rw [hPE]; exact q15d
  clear hPE
  generalize upI c.c c.p = U at *
  generalize upI (spI c) c.p = US at *
  have O0 : Ob w (((w.alloc (.cells #[.int .i64 c.b, .int .i64 c.p, .int .i64 c.c, .int .i64 c.s, .int .i64 c.m, .int .i64 c.w, .bool c.f] 29)).alloc (.cells #[.int .i64 0, .int .i64 0, .int .i64 0, .int .i64 0, .int .i64 0, .int .i64 0, .int .i64 0, .int .i64 0, .int .i64 0, .int .i64 0, .int .i64 0] 24)).alloc (.cells #[.int .i64 0, .int .i64 0, .int .i64 0, .int .i64 0, .int .i64 0, .int .i64 0, .int .i64 0, .int .i64 0, .int .i64 0, .int .i64 0, .int .i64 0] 24)) w.heap.size (w.heap.size + 2) (w.heap.size + 1) c [0, 0, 0, 0, 0, 0, 0, 0, 0, 0, 0] := by
    have B1 : Blk (w.alloc (.cells #[.int .i64 c.b, .int .i64 c.p, .int .i64 c.c, .int .i64 c.s, .int .i64 c.m, .int .i64 c.w, .bool c.f] 29)) w.heap.size 7 (ccell c) := blk_cf w c
    have B2 : Blk ((w.alloc (.cells #[.int .i64 c.b, .int .i64 c.p, .int .i64 c.c, .int .i64 c.s, .int .i64 c.m, .int .i64 c.w, .bool c.f] 29)).alloc (.cells #[.int .i64 0, .int .i64 0, .int .i64 0, .int .i64 0, .int .i64 0, .int .i64 0, .int .i64 0, .int .i64 0, .int .i64 0, .int .i64 0, .int .i64 0] 24)) (w.heap.size + 1) 11 (fun _ => .int .i64 0) := by
      have := blk_alloc (w.alloc (.cells #[.int .i64 c.b, .int .i64 c.p, .int .i64 c.c, .int .i64 c.s, .int .i64 c.m, .int .i64 c.w, .bool c.f] 29)) #[.int .i64 0, .int .i64 0, .int .i64 0, .int .i64 0, .int .i64 0, .int .i64 0, .int .i64 0, .int .i64 0, .int .i64 0, .int .i64 0, .int .i64 0] 24 11 (fun _ => .int .i64 0) (fun i hi => by
        have : i = 0 ∨ i = 1 ∨ i = 2 ∨ i = 3 ∨ i = 4 ∨ i = 5 ∨ i = 6 ∨ i = 7 ∨ i = 8 ∨ i = 9 ∨ i = 10 := by omega
        rcases this with rfl | rfl | rfl | rfl | rfl | rfl | rfl | rfl | rfl | rfl | rfl <;> rfl)
      rwa [World.size_alloc] at this
    have B3 : Blk (((w.alloc (.cells #[.int .i64 c.b, .int .i64 c.p, .int .i64 c.c, .int .i64 c.s, .int .i64 c.m, .int .i64 c.w, .bool c.f] 29)).alloc (.cells #[.int .i64 0, .int .i64 0, .int .i64 0, .int .i64 0, .int .i64 0, .int .i64 0, .int .i64 0, .int .i64 0, .int .i64 0, .int .i64 0, .int .i64 0] 24)).alloc (.cells #[.int .i64 0, .int .i64 0, .int .i64 0, .int .i64 0, .int .i64 0, .int .i64 0, .int .i64 0, .int .i64 0, .int .i64 0, .int .i64 0, .int .i64 0] 24)) (w.heap.size + 2) 11 (scell [0, 0, 0, 0, 0, 0, 0, 0, 0, 0, 0]) := by
      have := blk_alloc ((w.alloc (.cells #[.int .i64 c.b, .int .i64 c.p, .int .i64 c.c, .int .i64 c.s, .int .i64 c.m, .int .i64 c.w, .bool c.f] 29)).alloc (.cells #[.int .i64 0, .int .i64 0, .int .i64 0, .int .i64 0, .int .i64 0, .int .i64 0, .int .i64 0, .int .i64 0, .int .i64 0, .int .i64 0, .int .i64 0] 24)) #[.int .i64 0, .int .i64 0, .int .i64 0, .int .i64 0, .int .i64 0, .int .i64 0, .int .i64 0, .int .i64 0, .int .i64 0, .int .i64 0, .int .i64 0] 24 11 (scell [0, 0, 0, 0, 0, 0, 0, 0, 0, 0, 0]) (fun i hi => by
        have : i = 0 ∨ i = 1 ∨ i = 2 ∨ i = 3 ∨ i = 4 ∨ i = 5 ∨ i = 6 ∨ i = 7 ∨ i = 8 ∨ i = 9 ∨ i = 10 := by omega
        rcases this with rfl | rfl | rfl | rfl | rfl | rfl | rfl | rfl | rfl | rfl | rfl <;> rfl)
      rwa [World.size_alloc, World.size_alloc] at this
    exact ⟨(B1.alloc _).alloc _, B3, B2.alloc _, ⟨by omega, by omega⟩, ⟨by omega, by omega⟩, (((Keep.refl _ _).alloc _).alloc _).alloc _⟩
  go_enter Try.func22, Try.ntmps22
  go_upto_region 2 with fail
  generalize (((w.alloc (.cells #[.int .i64 c.b, .int .i64 c.p, .int .i64 c.c, .int .i64 c.s, .int .i64 c.m, .int .i64 c.w, .bool c.f] 29)).alloc (.cells #[.int .i64 0, .int .i64 0, .int .i64 0, .int .i64 0, .int .i64 0, .int .i64 0, .int .i64 0, .int .i64 0, .int .i64 0, .int .i64 0, .int .i64 0] 24)).alloc (.cells #[.int .i64 0, .int .i64 0, .int .i64 0, .int .i64 0, .int .i64 0, .int .i64 0, .int .i64 0, .int .i64 0, .int .i64 0, .int .i64 0, .int .i64 0] 24)) = v0 at O0 ⊢
  generalize hg : w.heap.size = g at O0 ⊢
  generalize hh : g + 2 = h at O0 ⊢
  generalize hq : g + 1 = q at O0 ⊢
  clear hg hh hq
  have cc0 : v0.cell? ⟨g, 0, none⟩ = some (.int .i64 c.b) := (O0.cf 0 (by omega)).1
  have cc1 : v0.cell? ⟨g, 1, none⟩ = some (.int .i64 c.p) := (O0.cf 1 (by omega)).1
  have cc2 : v0.cell? ⟨g, 2, none⟩ = some (.int .i64 c.c) := (O0.cf 2 (by omega)).1
  have cc3 : v0.cell? ⟨g, 3, none⟩ = some (.int .i64 c.s) := (O0.cf 3 (by omega)).1
  have cc4 : v0.cell? ⟨g, 4, none⟩ = some (.int .i64 c.m) := (O0.cf 4 (by omega)).1
  have cc5 : v0.cell? ⟨g, 5, none⟩ = some (.int .i64 c.w) := (O0.cf 5 (by omega)).1
  have cc6 : v0.cell? ⟨g, 6, none⟩ = some (.bool c.f) := (O0.cf 6 (by omega)).1
  go_upto_region 3 with fail
  refine (hsn O0.sz).mono ?_
  rintro e va ⟨rfl, ka, Ba⟩
  have Oa := O0.wrote ka Ba
  clear hsn
  clear cc0 cc1 cc2 cc3 cc4 cc5 cc6
  have cc0 : va.cell? ⟨g, 0, none⟩ = some (.int .i64 c.b) := (Oa.cf 0 (by omega)).1
  have cc1 : va.cell? ⟨g, 1, none⟩ = some (.int .i64 c.p) := (Oa.cf 1 (by omega)).1
  have cc2 : va.cell? ⟨g, 2, none⟩ = some (.int .i64 c.c) := (Oa.cf 2 (by omega)).1
  have cc3 : va.cell? ⟨g, 3, none⟩ = some (.int .i64 c.s) := (Oa.cf 3 (by omega)).1
  have cc4 : va.cell? ⟨g, 4, none⟩ = some (.int .i64 c.m) := (Oa.cf 4 (by omega)).1
  have cc5 : va.cell? ⟨g, 5, none⟩ = some (.int .i64 c.w) := (Oa.cf 5 (by omega)).1
  have cc6 : va.cell? ⟨g, 6, none⟩ = some (.bool c.f) := (Oa.cf 6 (by omega)).1
  go_upto_region 4 with fail
  refine (hrc Oa.sz).mono ?_
  rintro e vb ⟨rfl, kb, Bb⟩
  have Ob0 := Oa.wrote kb Bb
  clear hrc
  clear cc0 cc1 cc2 cc3 cc4 cc5 cc6
  have cc1 : vb.cell? ⟨g, 1, none⟩ = some (.int .i64 c.p) := (Ob0.cf 1 (by omega)).1
  have cs1 : vb.cell? ⟨h, 1, none⟩ = some (.int .i64 (spI c)) := (Ob0.sz 1 (by omega)).1
  have cs4 : vb.cell? ⟨h, 4, none⟩ = some (.int .i64 (rpI c)) := (Ob0.sz 4 (by omega)).1
  have cs5 : vb.cell? ⟨h, 5, none⟩ = some (.int .i64 (0)) := (Ob0.sz 5 (by omega)).1
  have cz : vb.frozen? ⟨h, 5, none⟩ = false := (Ob0.sz 5 (by omega)).2
  go_upto_region 5 with fail
  clear cc1 cs1 cs4 cs5 cz
  have O1 : Ob w (vb.setCell ⟨h, 5, none⟩ (.int .i64 (lpI c))) g h q c [rbI c, spI c, omI c, obI c, rpI c, lpI c, 0, 0, 0, 0, 0] := Ob0.set 5 _ (by show 5 < 11; omega)
  generalize vb.setCell ⟨h, 5, none⟩ (.int .i64 (lpI c)) = v1 at O1 ⊢
  clear q10a q10b q10c
  have cc1 : v1.cell? ⟨g, 1, none⟩ = some (.int .i64 c.p) := (O1.cf 1 (by omega)).1
  have cs1 : v1.cell? ⟨h, 1, none⟩ = some (.int .i64 (spI c)) := (O1.sz 1 (by omega)).1
  have cs5 : v1.cell? ⟨h, 5, none⟩ = some (.int .i64 (lpI c)) := (O1.sz 5 (by omega)).1
  go_upto_region 6 with fail
  refine (k11 _).mono ?_
  rintro e y5_0 ⟨rfl, k5_0⟩
  have O5_0 := O1.more k5_0
  clear cc1 cs1 cs5
  have cs6 : y5_0.cell? ⟨h, 6, none⟩ = some (.int .i64 (0)) := (O5_0.sz 6 (by omega)).1
  have cz : y5_0.frozen? ⟨h, 6, none⟩ = false := (O5_0.sz 6 (by omega)).2
  go_upto_region 6 with fail
  clear cs6 cz
  have O2 : Ob w (y5_0.setCell ⟨h, 6, none⟩ (.int .i64 (ebI c))) g h q c [rbI c, spI c, omI c, obI c, rpI c, lpI c, ebI c, 0, 0, 0, 0] := O5_0.set 6 _ (by show 6 < 11; omega)
  generalize y5_0.setCell ⟨h, 6, none⟩ (.int .i64 (ebI c)) = v2 at O2 ⊢
  clear k11 q11
  go_upto_region 6 with fail
  have D6 := O2.more ((Keep.refl (fun _ => False) v2).drew)
  refine wp_region_noPanic ?_
  refine wp_region_held_drew (S := fun w' => True ∧ w'.cell? ⟨g, 1, none⟩ = some (.int .i64 c.p) ∧ w'.cell? ⟨h, 1, none⟩ = some (.int .i64 (spI c)) ∧ w'.cell? ⟨h, 6, none⟩ = some (.int .i64 (ebI c))) (by kernel_rfl) (⟨trivial, (D6.cf 1 (by omega)).1, (D6.sz 1 (by omega)).1, (D6.sz 6 (by omega)).1⟩) (fun hH0 => ?_)
  refine' wpAnyH_take (i := 0) (oi := { dst := some 27, op := Op.fieldAddr 24 (Operand.tmp 3) 6, type := 0, pos := "size.go:88", after := #[], guard := none }) (v := _) rfl (by kernel_rfl) (by kernel_rfl) (by kernel_rfl) (fun _ _ _ h => h) (Or.inl ⟨by rfl, ?hyr60⟩) hH0 ?rr60
  case hyr60 => (intro w' hSw; clear hSw; go_simp; try with_reducible rfl)
  simp only [Act.put, List.setIfInBounds_toArray, List.set_cons_zero, List.set_cons_succ]
  refine' wpAnyH_take (i := 1) (oi := { dst := some 28, op := Op.load 3 (Operand.tmp 27), type := 3, pos := "size.go:88", after := #[{ on := 0, ground := Ground.data }], guard := none }) (v := _) rfl (by kernel_rfl) (by kernel_rfl) (by kernel_rfl) (fun _ _ _ h => h) (Or.inl ⟨by rfl, ?hyr61⟩) hH0 ?rr61
  case hyr61 => (intro w' hSw; obtain ⟨-, z0, z1, z2⟩ := hSw; go_simp; try with_reducible rfl)
  simp only [Act.put, List.setIfInBounds_toArray, List.set_cons_zero, List.set_cons_succ]
  refine' wpAnyH_take (i := 2) (oi := { dst := some 29, op := Op.fieldAddr 24 (Operand.tmp 3) 1, type := 0, pos := "size.go:88", after := #[], guard := none }) (v := _) rfl (by kernel_rfl) (by kernel_rfl) (by kernel_rfl) (fun _ _ _ h => h) (Or.inl ⟨by rfl, ?hyr62⟩) hH0 ?rr62
  case hyr62 => (intro w' hSw; clear hSw; go_simp; try with_reducible rfl)
  simp only [Act.put, List.setIfInBounds_toArray, List.set_cons_zero, List.set_cons_succ]
  refine' wpAnyH_take (i := 3) (oi := { dst := some 30, op := Op.load 3 (Operand.tmp 29), type := 3, pos := "size.go:88", after := #[{ on := 2, ground := Ground.data }], guard := none }) (v := _) rfl (by kernel_rfl) (by kernel_rfl) (by kernel_rfl) (fun _ _ _ h => h) (Or.inl ⟨by rfl, ?hyr63⟩) hH0 ?rr63
  case hyr63 => (intro w' hSw; obtain ⟨-, z0, z1, z2⟩ := hSw; go_simp; try with_reducible rfl)
  simp only [Act.put, List.setIfInBounds_toArray, List.set_cons_zero, List.set_cons_succ]
  refine' wpAnyH_take (i := 4) (oi := { dst := some 31, op := Op.fieldAddr 29 (Operand.tmp 1) 1, type := 0, pos := "size.go:88", after := #[], guard := none }) (v := _) rfl (by kernel_rfl) (by kernel_rfl) (by kernel_rfl) (fun _ _ _ h => h) (Or.inl ⟨by rfl, ?hyr64⟩) hH0 ?rr64
  case hyr64 => (intro w' hSw; clear hSw; go_simp; try with_reducible rfl)
  simp only [Act.put, List.setIfInBounds_toArray, List.set_cons_zero, List.set_cons_succ]
  refine' wpAnyH_take (i := 5) (oi := { dst := some 32, op := Op.load 3 (Operand.tmp 31), type := 3, pos := "size.go:88", after := #[{ on := 4, ground := Ground.data }], guard := none }) (v := _) rfl (by kernel_rfl) (by kernel_rfl) (by kernel_rfl) (fun _ _ _ h => h) (Or.inl ⟨by rfl, ?hyr65⟩) hH0 ?rr65
  case hyr65 => (intro w' hSw; obtain ⟨-, z0, z1, z2⟩ := hSw; go_simp; try with_reducible rfl)
  simp only [Act.put, List.setIfInBounds_toArray, List.set_cons_zero, List.set_cons_succ]
  refine wpAnyH_ready (rs := [6]) (by kernel_rfl) (by simp) ?_
  refine AllReadyH.cons (o := { dst := some 33, op := Op.call { callee := Callee.value (Operand.func 33), args := #[Operand.tmp 30, Operand.tmp 32], argTypes := #[3, 3] }, type := 3, pos := "size.go:88", after := #[{ on := 3, ground := Ground.data }, { on := 5, ground := Ground.data }], guard := none }) rfl (fun K hK => ?_) AllReadyH.nil
  refine step_call_want (vs := #[.int .i64 (spI c), .int .i64 (c.p)]) (R := fun u wz => u = .int .i64 (US) ∧ Keep (fun _ => False) v2.drew wz) (by rfl) 33 #[Operand.tmp 30, Operand.tmp 32] #[3, 3] rfl (by simp [Act.eval]) call33 (post_of (k12 _)) ?_
  rintro _ y6_0 ⟨rfl, k6_0⟩
  refine hK.out _ _ (⟨trivial, ((D6.more k6_0).cf 1 (by omega)).1, ((D6.more k6_0).sz 1 (by omega)).1, ((D6.more k6_0).sz 6 (by omega)).1⟩) (fun hH1 => ?_)
  clear hK K hH0
  simp only [Act.put, List.setIfInBounds_toArray, List.set_cons_zero, List.set_cons_succ]
  refine' wpAnyH_take (i := 7) (oi := { dst := some 34, op := Op.binOp BinOp.add 3 (Operand.tmp 28) (Operand.tmp 33) 3, type := 3, pos := "size.go:88", after := #[{ on := 1, ground := Ground.data }, { on := 6, ground := Ground.data }], guard := none }) (v := _) rfl (by kernel_rfl) (by kernel_rfl) (by kernel_rfl) (fun _ _ _ h => h) (Or.inl ⟨by rfl, ?hyr67⟩) hH1 ?rr67
  case hyr67 => (intro w' hSw; clear hSw; go_simp; try with_reducible rfl)
  simp only [Act.put, List.setIfInBounds_toArray, List.set_cons_zero, List.set_cons_succ]
  refine' wpAnyH_take (i := 8) (oi := { dst := some 35, op := Op.binOp BinOp.add 3 (Operand.tmp 34) (Operand.const (Value.int IntKind.i64 3)) 3, type := 3, pos := "size.go:88", after := #[{ on := 7, ground := Ground.data }], guard := none }) (v := _) rfl (by kernel_rfl) (by kernel_rfl) (by kernel_rfl) (fun _ _ _ h => h) (Or.inl ⟨by rfl, ?hyr68⟩) hH1 ?rr68
  case hyr68 => (intro w' hSw; clear hSw; go_simp; try with_reducible rfl)
  simp only [Act.put, List.setIfInBounds_toArray, List.set_cons_zero, List.set_cons_succ]
  refine' wpAnyH_take (i := 9) (oi := { dst := some 36, op := Op.fieldAddr 24 (Operand.tmp 3) 7, type := 0, pos := "size.go:88", after := #[{ on := 0, ground := Ground.phase }, { on := 1, ground := Ground.phase }, { on := 2, ground := Ground.phase }, { on := 3, ground := Ground.phase }, { on := 4, ground := Ground.phase }, { on := 5, ground := Ground.phase }, { on := 6, ground := Ground.phase }, { on := 7, ground := Ground.phase }, { on := 8, ground := Ground.phase }], guard := none }) (v := _) rfl (by kernel_rfl) (by kernel_rfl) (by kernel_rfl) (fun _ _ _ h => h) (Or.inl ⟨by rfl, ?hyr69⟩) hH1 ?rr69
  case hyr69 => (intro w' hSw; clear hSw; go_simp; try with_reducible rfl)
  simp only [Act.put, List.setIfInBounds_toArray, List.set_cons_zero, List.set_cons_succ]
  refine wpAnyH_ready (rs := [10]) (by kernel_rfl) (by simp) ?_
  refine AllReadyH.cons (o := { dst := none, op := Op.store 3 (Operand.tmp 36) (Operand.tmp 35), type := 0, pos := "size.go:88", after := #[{ on := 9, ground := Ground.data }, { on := 8, ground := Ground.data }, { on := 6, ground := Ground.chain }, { on := 0, ground := Ground.phase }, { on := 1, ground := Ground.phase }, { on := 2, ground := Ground.phase }, { on := 3, ground := Ground.phase }, { on := 4, ground := Ground.phase }, { on := 5, ground := Ground.phase }, { on := 6, ground := Ground.phase }, { on := 7, ground := Ground.phase }, { on := 8, ground := Ground.phase }], guard := none }) rfl (fun K hK => ?_) AllReadyH.nil
  refine step_store_run (by rfl) 3 (.tmp 36) (.tmp 35) rfl (by rfl) (by rfl) (store3 ((D6.more k6_0).sz 7 (by omega)).1 ((D6.more k6_0).sz 7 (by omega)).2) ?_
  refine hK.out _ _ (⟨trivial, ((show Ob w (y6_0.setCell ⟨h, 7, none⟩ (.int .i64 (mbI c))) g h q c [rbI c, spI c, omI c, obI c, rpI c, lpI c, ebI c, mbI c, 0, 0, 0] from (D6.more k6_0).set 7 _ (by show 7 < 11; omega)).cf 1 (by omega)).1, ((show Ob w (y6_0.setCell ⟨h, 7, none⟩ (.int .i64 (mbI c))) g h q c [rbI c, spI c, omI c, obI c, rpI c, lpI c, ebI c, mbI c, 0, 0, 0] from (D6.more k6_0).set 7 _ (by show 7 < 11; omega)).sz 1 (by omega)).1, ((show Ob w (y6_0.setCell ⟨h, 7, none⟩ (.int .i64 (mbI c))) g h q c [rbI c, spI c, omI c, obI c, rpI c, lpI c, ebI c, mbI c, 0, 0, 0] from (D6.more k6_0).set 7 _ (by show 7 < 11; omega)).sz 6 (by omega)).1⟩) (fun hH2 => ?_)
  clear hK K hH1
  simp only [Act.put]
  refine wpAnyH_done (by kernel_rfl) ?_ _
  refine NoPanic.normal ?_
  have O3_ := (D6.more k6_0)
  have O4 : Ob w (y6_0.setCell ⟨h, 7, none⟩ (.int .i64 (mbI c))) g h q c [rbI c, spI c, omI c, obI c, rpI c, lpI c, ebI c, mbI c, 0, 0, 0] := O3_.set 7 _ (by show 7 < 11; omega)
  generalize y6_0.setCell ⟨h, 7, none⟩ (.int .i64 (mbI c)) = v4 at O4 ⊢
  clear k12 q12a q12b
  have cc2 : v4.cell? ⟨g, 2, none⟩ = some (.int .i64 c.c) := (O4.cf 2 (by omega)).1
  have cc5 : v4.cell? ⟨g, 5, none⟩ = some (.int .i64 c.w) := (O4.cf 5 (by omega)).1
  go_upto_region 8 with fail
  refine (k13 _).mono ?_
  rintro e y7_0 ⟨rfl, k7_0⟩
  have O7_0 := O4.more k7_0
  clear cc2 cc5
  have cs8 : y7_0.cell? ⟨h, 8, none⟩ = some (.int .i64 (0)) := (O7_0.sz 8 (by omega)).1
  have cz : y7_0.frozen? ⟨h, 8, none⟩ = false := (O7_0.sz 8 (by omega)).2
  go_upto_region 8 with fail
  clear cs8 cz
  have O5 : Ob w (y7_0.setCell ⟨h, 8, none⟩ (.int .i64 (wnI c))) g h q c [rbI c, spI c, omI c, obI c, rpI c, lpI c, ebI c, mbI c, wnI c, 0, 0] := O7_0.set 8 _ (by show 8 < 11; omega)
  generalize y7_0.setCell ⟨h, 8, none⟩ (.int .i64 (wnI c)) = v5 at O5 ⊢
  clear k13
  go_upto_region 8 with fail
  have D8 := O5.more ((Keep.refl (fun _ => False) v5).drew)
  refine wp_region_noPanic ?_
  refine wp_region_held_drew (S := fun w' => True ∧ w'.cell? ⟨g, 1, none⟩ = some (.int .i64 c.p) ∧ w'.cell? ⟨g, 2, none⟩ = some (.int .i64 c.c) ∧ w'.cell? ⟨g, 3, none⟩ = some (.int .i64 c.s)) (by kernel_rfl) (⟨trivial, (D8.cf 1 (by omega)).1, (D8.cf 2 (by omega)).1, (D8.cf 3 (by omega)).1⟩) (fun hH0 => ?_)
  refine' wpAnyH_take (i := 0) (oi := { dst := some 43, op := Op.fieldAddr 29 (Operand.tmp 1) 2, type := 0, pos := "size.go:90", after := #[], guard := none }) (v := _) rfl (by kernel_rfl) (by kernel_rfl) (by kernel_rfl) (fun _ _ _ h => h) (Or.inl ⟨by rfl, ?hyr80⟩) hH0 ?rr80
  case hyr80 => (intro w' hSw; clear hSw; go_simp; try with_reducible rfl)
  simp only [Act.put, List.setIfInBounds_toArray, List.set_cons_zero, List.set_cons_succ]
  refine' wpAnyH_take (i := 1) (oi := { dst := some 44, op := Op.load 3 (Operand.tmp 43), type := 3, pos := "size.go:90", after := #[{ on := 0, ground := Ground.data }], guard := none }) (v := _) rfl (by kernel_rfl) (by kernel_rfl) (by kernel_rfl) (fun _ _ _ h => h) (Or.inl ⟨by rfl, ?hyr81⟩) hH0 ?rr81
  case hyr81 => (intro w' hSw; obtain ⟨-, z0, z1, z2⟩ := hSw; go_simp; try with_reducible rfl)
  simp only [Act.put, List.setIfInBounds_toArray, List.set_cons_zero, List.set_cons_succ]
  refine' wpAnyH_take (i := 2) (oi := { dst := some 45, op := Op.fieldAddr 29 (Operand.tmp 1) 1, type := 0, pos := "size.go:90", after := #[], guard := none }) (v := _) rfl (by kernel_rfl) (by kernel_rfl) (by kernel_rfl) (fun _ _ _ h => h) (Or.inl ⟨by rfl, ?hyr82⟩) hH0 ?rr82
  case hyr82 => (intro w' hSw; clear hSw; go_simp; try with_reducible rfl)
  simp only [Act.put, List.setIfInBounds_toArray, List.set_cons_zero, List.set_cons_succ]
  refine' wpAnyH_take (i := 3) (oi := { dst := some 46, op := Op.load 3 (Operand.tmp 45), type := 3, pos := "size.go:90", after := #[{ on := 2, ground := Ground.data }], guard := none }) (v := _) rfl (by kernel_rfl) (by kernel_rfl) (by kernel_rfl) (fun _ _ _ h => h) (Or.inl ⟨by rfl, ?hyr83⟩) hH0 ?rr83
  case hyr83 => (intro w' hSw; obtain ⟨-, z0, z1, z2⟩ := hSw; go_simp; try with_reducible rfl)
  simp only [Act.put, List.setIfInBounds_toArray, List.set_cons_zero, List.set_cons_succ]
  refine' wpAnyH_take (i := 6) (oi := { dst := some 49, op := Op.fieldAddr 29 (Operand.tmp 1) 3, type := 0, pos := "size.go:90", after := #[], guard := none }) (v := _) rfl (by kernel_rfl) (by kernel_rfl) (by kernel_rfl) (fun _ _ _ h => h) (Or.inl ⟨by rfl, ?hyr86⟩) hH0 ?rr86
  case hyr86 => (intro w' hSw; clear hSw; go_simp; try with_reducible rfl)
  simp only [Act.put, List.setIfInBounds_toArray, List.set_cons_zero, List.set_cons_succ]
  refine' wpAnyH_take (i := 7) (oi := { dst := some 50, op := Op.load 3 (Operand.tmp 49), type := 3, pos := "size.go:90", after := #[{ on := 6, ground := Ground.data }], guard := none }) (v := _) rfl (by kernel_rfl) (by kernel_rfl) (by kernel_rfl) (fun _ _ _ h => h) (Or.inl ⟨by rfl, ?hyr87⟩) hH0 ?rr87
  case hyr87 => (intro w' hSw; obtain ⟨-, z0, z1, z2⟩ := hSw; go_simp; try with_reducible rfl)
  simp only [Act.put, List.setIfInBounds_toArray, List.set_cons_zero, List.set_cons_succ]
  refine' wpAnyH_take (i := 8) (oi := { dst := some 51, op := Op.binOp BinOp.mul 3 (Operand.const (Value.int IntKind.i64 4)) (Operand.tmp 50) 3, type := 3, pos := "size.go:90", after := #[{ on := 7, ground := Ground.data }], guard := none }) (v := _) rfl (by kernel_rfl) (by kernel_rfl) (by kernel_rfl) (fun _ _ _ h => h) (Or.inl ⟨by rfl, ?hyr88⟩) hH0 ?rr88
  case hyr88 => (intro w' hSw; clear hSw; go_simp; try with_reducible rfl)
  simp only [Act.put, List.setIfInBounds_toArray, List.set_cons_zero, List.set_cons_succ]
  refine wpAnyH_ready (rs := [4]) (by kernel_rfl) (by simp) ?_
  refine AllReadyH.cons (o := { dst := some 47, op := Op.call { callee := Callee.value (Operand.func 33), args := #[Operand.tmp 44, Operand.tmp 46], argTypes := #[3, 3] }, type := 3, pos := "size.go:90", after := #[{ on := 1, ground := Ground.data }, { on := 3, ground := Ground.data }], guard := none }) rfl (fun K hK => ?_) AllReadyH.nil
  refine step_call_want (vs := #[.int .i64 (c.c), .int .i64 (c.p)]) (R := fun u wz => u = .int .i64 (U) ∧ Keep (fun _ => False) v5.drew wz) (by rfl) 33 #[Operand.tmp 44, Operand.tmp 46] #[3, 3] rfl (by simp [Act.eval]) call33 (post_of (kU _)) ?_
  rintro _ y8_0 ⟨rfl, k8_0⟩
  refine hK.out _ _ (⟨trivial, ((D8.more k8_0).cf 1 (by omega)).1, ((D8.more k8_0).cf 2 (by omega)).1, ((D8.more k8_0).cf 3 (by omega)).1⟩) (fun hH1 => ?_)
  clear hK K hH0
  simp only [Act.put, List.setIfInBounds_toArray, List.set_cons_zero, List.set_cons_succ]
  refine' wpAnyH_take (i := 5) (oi := { dst := some 48, op := Op.binOp BinOp.add 3 (Operand.tmp 47) (Operand.const (Value.int IntKind.i64 8)) 3, type := 3, pos := "size.go:90", after := #[{ on := 4, ground := Ground.data }], guard := none }) (v := _) rfl (by kernel_rfl) (by kernel_rfl) (by kernel_rfl) (fun _ _ _ h => h) (Or.inl ⟨by rfl, ?hyr85⟩) hH1 ?rr85
  case hyr85 => (intro w' hSw; clear hSw; go_simp; try with_reducible rfl)
  simp only [Act.put, List.setIfInBounds_toArray, List.set_cons_zero, List.set_cons_succ]
  refine' wpAnyH_take (i := 9) (oi := { dst := some 52, op := Op.binOp BinOp.add 3 (Operand.tmp 48) (Operand.tmp 51) 3, type := 3, pos := "size.go:90", after := #[{ on := 5, ground := Ground.data }, { on := 8, ground := Ground.data }], guard := none }) (v := _) rfl (by kernel_rfl) (by kernel_rfl) (by kernel_rfl) (fun _ _ _ h => h) (Or.inl ⟨by rfl, ?hyr89⟩) hH1 ?rr89
  case hyr89 => (intro w' hSw; clear hSw; go_simp; try with_reducible rfl)
  simp only [Act.put, List.setIfInBounds_toArray, List.set_cons_zero, List.set_cons_succ]
  refine' wpAnyH_take (i := 10) (oi := { dst := some 53, op := Op.fieldAddr 24 (Operand.tmp 3) 9, type := 0, pos := "size.go:90", after := #[{ on := 0, ground := Ground.phase }, { on := 1, ground := Ground.phase }, { on := 2, ground := Ground.phase }, { on := 3, ground := Ground.phase }, { on := 4, ground := Ground.phase }, { on := 5, ground := Ground.phase }, { on := 6, ground := Ground.phase }, { on := 7, ground := Ground.phase }, { on := 8, ground := Ground.phase }, { on := 9, ground := Ground.phase }], guard := none }) (v := _) rfl (by kernel_rfl) (by kernel_rfl) (by kernel_rfl) (fun _ _ _ h => h) (Or.inl ⟨by rfl, ?hyr810⟩) hH1 ?rr810
  case hyr810 => (intro w' hSw; clear hSw; go_simp; try with_reducible rfl)
  simp only [Act.put, List.setIfInBounds_toArray, List.set_cons_zero, List.set_cons_succ]
  refine wpAnyH_ready (rs := [11]) (by kernel_rfl) (by simp) ?_
  refine AllReadyH.cons (o := { dst := none, op := Op.store 3 (Operand.tmp 53) (Operand.tmp 52), type := 0, pos := "size.go:90", after := #[{ on := 10, ground := Ground.data }, { on := 9, ground := Ground.data }, { on := 4, ground := Ground.chain }, { on := 0, ground := Ground.phase }, { on := 1, ground := Ground.phase }, { on := 2, ground := Ground.phase }, { on := 3, ground := Ground.phase }, { on := 4, ground := Ground.phase }, { on := 5, ground := Ground.phase }, { on := 6, ground := Ground.phase }, { on := 7, ground := Ground.phase }, { on := 8, ground := Ground.phase }, { on := 9, ground := Ground.phase }], guard := none }) rfl (fun K hK => ?_) AllReadyH.nil
  refine step_store_run (by rfl) 3 (.tmp 53) (.tmp 52) rfl (by rfl) (by rfl) (store3 ((D8.more k8_0).sz 9 (by omega)).1 ((D8.more k8_0).sz 9 (by omega)).2) ?_
  refine hK.out _ _ (⟨trivial, ((show Ob w (y8_0.setCell ⟨h, 9, none⟩ (.int .i64 (slI c))) g h q c [rbI c, spI c, omI c, obI c, rpI c, lpI c, ebI c, mbI c, wnI c, slI c, 0] from (D8.more k8_0).set 9 _ (by show 9 < 11; omega)).cf 1 (by omega)).1, ((show Ob w (y8_0.setCell ⟨h, 9, none⟩ (.int .i64 (slI c))) g h q c [rbI c, spI c, omI c, obI c, rpI c, lpI c, ebI c, mbI c, wnI c, slI c, 0] from (D8.more k8_0).set 9 _ (by show 9 < 11; omega)).cf 2 (by omega)).1, ((show Ob w (y8_0.setCell ⟨h, 9, none⟩ (.int .i64 (slI c))) g h q c [rbI c, spI c, omI c, obI c, rpI c, lpI c, ebI c, mbI c, wnI c, slI c, 0] from (D8.more k8_0).set 9 _ (by show 9 < 11; omega)).cf 3 (by omega)).1⟩) (fun hH2 => ?_)
  clear hK K hH1
  simp only [Act.put]
  refine wpAnyH_done (by kernel_rfl) ?_ _
  refine NoPanic.normal ?_
  have O6_ := (D8.more k8_0)
  have O7 : Ob w (y8_0.setCell ⟨h, 9, none⟩ (.int .i64 (slI c))) g h q c [rbI c, spI c, omI c, obI c, rpI c, lpI c, ebI c, mbI c, wnI c, slI c, 0] := O6_.set 9 _ (by show 9 < 11; omega)
  generalize y8_0.setCell ⟨h, 9, none⟩ (.int .i64 (slI c)) = v7 at O7 ⊢
  clear kU q14a q14b q14c
  have cc0 : v7.cell? ⟨g, 0, none⟩ = some (.int .i64 c.b) := (O7.cf 0 (by omega)).1
  have cc1 : v7.cell? ⟨g, 1, none⟩ = some (.int .i64 c.p) := (O7.cf 1 (by omega)).1
  have cc3 : v7.cell? ⟨g, 3, none⟩ = some (.int .i64 c.s) := (O7.cf 3 (by omega)).1
  have cs6 : v7.cell? ⟨h, 6, none⟩ = some (.int .i64 (ebI c)) := (O7.sz 6 (by omega)).1
  have cs10 : v7.cell? ⟨h, 10, none⟩ = some (.int .i64 (0)) := (O7.sz 10 (by omega)).1
  have cz : v7.frozen? ⟨h, 10, none⟩ = false := (O7.sz 10 (by omega)).2
  go_upto_region 10 with fail
  clear cc0 cc1 cc3 cs6 cs10 cz
  have O8 : Ob w (v7.setCell ⟨h, 10, none⟩ (.int .i64 (mrI c))) g h q c [rbI c, spI c, omI c, obI c, rpI c, lpI c, ebI c, mbI c, wnI c, slI c, mrI c] := O7.set 10 _ (by show 10 < 11; omega)
  generalize v7.setCell ⟨h, 10, none⟩ (.int .i64 (mrI c)) = v8 at O8 ⊢
  clear q15a q15b q15c q15d q15e
  have cs0 : v8.cell? ⟨h, 0, none⟩ = some (.int .i64 (rbI c)) := (O8.sz 0 (by omega)).1
  have cs1 : v8.cell? ⟨h, 1, none⟩ = some (.int .i64 (spI c)) := (O8.sz 1 (by omega)).1
  have cs2 : v8.cell? ⟨h, 2, none⟩ = some (.int .i64 (omI c)) := (O8.sz 2 (by omega)).1
  have cs3 : v8.cell? ⟨h, 3, none⟩ = some (.int .i64 (obI c)) := (O8.sz 3 (by omega)).1
  have cs4 : v8.cell? ⟨h, 4, none⟩ = some (.int .i64 (rpI c)) := (O8.sz 4 (by omega)).1
  have cs5 : v8.cell? ⟨h, 5, none⟩ = some (.int .i64 (lpI c)) := (O8.sz 5 (by omega)).1
  have cs6 : v8.cell? ⟨h, 6, none⟩ = some (.int .i64 (ebI c)) := (O8.sz 6 (by omega)).1
  have cs7 : v8.cell? ⟨h, 7, none⟩ = some (.int .i64 (mbI c)) := (O8.sz 7 (by omega)).1
  have cs8 : v8.cell? ⟨h, 8, none⟩ = some (.int .i64 (wnI c)) := (O8.sz 8 (by omega)).1
  have cs9 : v8.cell? ⟨h, 9, none⟩ = some (.int .i64 (slI c)) := (O8.sz 9 (by omega)).1
  have cs10 : v8.cell? ⟨h, 10, none⟩ = some (.int .i64 (mrI c)) := (O8.sz 10 (by omega)).1
  have cr0 : v8.cell? ⟨q, 0, none⟩ = some (.int .i64 0) := (O8.rs 0 (by omega)).1
  have cf0 : v8.frozen? ⟨q, 0, none⟩ = false := (O8.rs 0 (by omega)).2
  have cr1 : v8.cell? ⟨q, 1, none⟩ = some (.int .i64 0) := (O8.rs 1 (by omega)).1
  have cf1 : v8.frozen? ⟨q, 1, none⟩ = false := (O8.rs 1 (by omega)).2
  have cr2 : v8.cell? ⟨q, 2, none⟩ = some (.int .i64 0) := (O8.rs 2 (by omega)).1
  have cf2 : v8.frozen? ⟨q, 2, none⟩ = false := (O8.rs 2 (by omega)).2
  have cr3 : v8.cell? ⟨q, 3, none⟩ = some (.int .i64 0) := (O8.rs 3 (by omega)).1
  have cf3 : v8.frozen? ⟨q, 3, none⟩ = false := (O8.rs 3 (by omega)).2
  have cr4 : v8.cell? ⟨q, 4, none⟩ = some (.int .i64 0) := (O8.rs 4 (by omega)).1
  have cf4 : v8.frozen? ⟨q, 4, none⟩ = false := (O8.rs 4 (by omega)).2
  have cr5 : v8.cell? ⟨q, 5, none⟩ = some (.int .i64 0) := (O8.rs 5 (by omega)).1
  have cf5 : v8.frozen? ⟨q, 5, none⟩ = false := (O8.rs 5 (by omega)).2
  have cr6 : v8.cell? ⟨q, 6, none⟩ = some (.int .i64 0) := (O8.rs 6 (by omega)).1
  have cf6 : v8.frozen? ⟨q, 6, none⟩ = false := (O8.rs 6 (by omega)).2
  have cr7 : v8.cell? ⟨q, 7, none⟩ = some (.int .i64 0) := (O8.rs 7 (by omega)).1
  have cf7 : v8.frozen? ⟨q, 7, none⟩ = false := (O8.rs 7 (by omega)).2
  have cr8 : v8.cell? ⟨q, 8, none⟩ = some (.int .i64 0) := (O8.rs 8 (by omega)).1
  have cf8 : v8.frozen? ⟨q, 8, none⟩ = false := (O8.rs 8 (by omega)).2
  have cr9 : v8.cell? ⟨q, 9, none⟩ = some (.int .i64 0) := (O8.rs 9 (by omega)).1
  have cf9 : v8.frozen? ⟨q, 9, none⟩ = false := (O8.rs 9 (by omega)).2
  have cr10 : v8.cell? ⟨q, 10, none⟩ = some (.int .i64 0) := (O8.rs 10 (by omega)).1
  have cf10 : v8.frozen? ⟨q, 10, none⟩ = false := (O8.rs 10 (by omega)).2
  have HK := O8.kp
  have hne := O8.ne.2
  have hlo := O8.lo.2
  go_wp2_with fail
  have HZ : Keep (fun _ => False) w (((((((((((v8.setCell ⟨q, 0, none⟩ (.int .i64 (rbI c))).setCell ⟨q, 1, none⟩ (.int .i64 (spI c))).setCell ⟨q, 2, none⟩ (.int .i64 (omI c))).setCell ⟨q, 3, none⟩ (.int .i64 (obI c))).setCell ⟨q, 4, none⟩ (.int .i64 (rpI c))).setCell ⟨q, 5, none⟩ (.int .i64 (lpI c))).setCell ⟨q, 6, none⟩ (.int .i64 (ebI c))).setCell ⟨q, 7, none⟩ (.int .i64 (mbI c))).setCell ⟨q, 8, none⟩ (.int .i64 (wnI c))).setCell ⟨q, 9, none⟩ (.int .i64 (slI c))).setCell ⟨q, 10, none⟩ (.int .i64 (mrI c))) := (((((((((((HK.setCell (p := ⟨q, 0, none⟩) (Or.inr hlo) (.int .i64 (rbI c))).setCell (p := ⟨q, 1, none⟩) (Or.inr hlo) (.int .i64 (spI c))).setCell (p := ⟨q, 2, none⟩) (Or.inr hlo) (.int .i64 (omI c))).setCell (p := ⟨q, 3, none⟩) (Or.inr hlo) (.int .i64 (obI c))).setCell (p := ⟨q, 4, none⟩) (Or.inr hlo) (.int .i64 (rpI c))).setCell (p := ⟨q, 5, none⟩) (Or.inr hlo) (.int .i64 (lpI c))).setCell (p := ⟨q, 6, none⟩) (Or.inr hlo) (.int .i64 (ebI c))).setCell (p := ⟨q, 7, none⟩) (Or.inr hlo) (.int .i64 (mbI c))).setCell (p := ⟨q, 8, none⟩) (Or.inr hlo) (.int .i64 (wnI c))).setCell (p := ⟨q, 9, none⟩) (Or.inr hlo) (.int .i64 (slI c))).setCell (p := ⟨q, 10, none⟩) (Or.inr hlo) (.int .i64 (mrI c)))
  have RZ : Blk (((((((((((v8.setCell ⟨q, 0, none⟩ (.int .i64 (rbI c))).setCell ⟨q, 1, none⟩ (.int .i64 (spI c))).setCell ⟨q, 2, none⟩ (.int .i64 (omI c))).setCell ⟨q, 3, none⟩ (.int .i64 (obI c))).setCell ⟨q, 4, none⟩ (.int .i64 (rpI c))).setCell ⟨q, 5, none⟩ (.int .i64 (lpI c))).setCell ⟨q, 6, none⟩ (.int .i64 (ebI c))).setCell ⟨q, 7, none⟩ (.int .i64 (mbI c))).setCell ⟨q, 8, none⟩ (.int .i64 (wnI c))).setCell ⟨q, 9, none⟩ (.int .i64 (slI c))).setCell ⟨q, 10, none⟩ (.int .i64 (mrI c))) q 11 (scell [rbI c, spI c, omI c, obI c, rpI c, lpI c, ebI c, mbI c, wnI c, slI c, mrI c]) := Blk.congr ((((((((((((O8.rs).set 0 (.int .i64 (rbI c))).set 1 (.int .i64 (spI c))).set 2 (.int .i64 (omI c))).set 3 (.int .i64 (obI c))).set 4 (.int .i64 (rpI c))).set 5 (.int .i64 (lpI c))).set 6 (.int .i64 (ebI c))).set 7 (.int .i64 (mbI c))).set 8 (.int .i64 (wnI c))).set 9 (.int .i64 (slI c))).set 10 (.int .i64 (mrI c))) (fun i hi => by
    have : i = 0 ∨ i = 1 ∨ i = 2 ∨ i = 3 ∨ i = 4 ∨ i = 5 ∨ i = 6 ∨ i = 7 ∨ i = 8 ∨ i = 9 ∨ i = 10 := by omega
    rcases this with rfl | rfl | rfl | rfl | rfl | rfl | rfl | rfl | rfl | rfl | rfl <;> rfl)
  generalize (((((((((((v8.setCell ⟨q, 0, none⟩ (.int .i64 (rbI c))).setCell ⟨q, 1, none⟩ (.int .i64 (spI c))).setCell ⟨q, 2, none⟩ (.int .i64 (omI c))).setCell ⟨q, 3, none⟩ (.int .i64 (obI c))).setCell ⟨q, 4, none⟩ (.int .i64 (rpI c))).setCell ⟨q, 5, none⟩ (.int .i64 (lpI c))).setCell ⟨q, 6, none⟩ (.int .i64 (ebI c))).setCell ⟨q, 7, none⟩ (.int .i64 (mbI c))).setCell ⟨q, 8, none⟩ (.int .i64 (wnI c))).setCell ⟨q, 9, none⟩ (.int .i64 (slI c))).setCell ⟨q, 10, none⟩ (.int .i64 (mrI c))) = wz at HZ RZ ⊢
  clear cs0 cr0 cf0 cs1 cr1 cf1 cs2 cr2 cf2 cs3 cr3 cf3 cs4 cr4 cf4 cs5 cr5 cf5 cs6 cr6 cf6 cs7 cr7 cf7 cs8 cr8 cf8 cs9 cr9 cf9 cs10 cr10 cf10
  refine bodyPost_ret (v := .agg #[.int .i64 (rbI c), .int .i64 (spI c), .int .i64 (omI c), .int .i64 (obI c), .int .i64 (rpI c), .int .i64 (lpI c), .int .i64 (ebI c), .int .i64 (mbI c), .int .i64 (wnI c), .int .i64 (slI c), .int .i64 (mrI c)]) ?_ rfl ⟨rfl, HZ⟩
  rw [results_cell rfl]
  simp [asAddr, Result.andThen, load_sp RZ]
end Tg
end Go.Proofs.Ytoobjmhllfeffaa
