/-
  The program's sorted: the pages of streams, in order.
-/
import Derived.Test.YtginnojbmpnleaaMc
import Derived.Test.YtginnojbmpnleaaMa
import Derived.Shelf.SlSortCmp.NoneTotal
namespace Go.Proofs.Ytginnojbmpnleaa
open Go.ChangeShapes Go.WideShapes Go.ChangeAt Go.RowKit
namespace Tg
/-- Where the library's own contract of slices.SortFunc finds its functions and types. -/
def renS : Go.Shelf.Ren := ⟨fun | 6 => 25 | 14 => 32 | 15 => 33 | 20 => 36 | 21 => 37 | 22 => 38 | 23 => 39 | 24 => 40 | 25 => 41 | 26 => 42 | 27 => 43 | 28 => 44 | 29 => 45 | 46 => 47 | 47 => 48 | 48 => 49 | 49 => 50 | 50 => 51 | 57 => 52 | n => n, fun | 22 => 23 | 24 => 33 | 25 => 63 | 39 => 57 | 45 => 72 | 46 => 73 | 50 => 77 | 53 => 27 | 55 => 81 | 66 => 82 | 70 => 86 | 76 => 88 | 77 => 89 | n => n, fun n => n⟩
theorem laysS : SlLaysF0.n6 Try.prog renS where
  mixed := by kernel_rfl
  f6 := ⟨Try.f25.name, by kernel_rfl, Try.func25.trans (congrArg some (by kernel_rfl))⟩
  f14 := ⟨Try.f32.name, by kernel_rfl, Try.func32.trans (congrArg some (by kernel_rfl))⟩
  f15 := Try.func33.trans (congrArg some (by kernel_rfl))
  f20 := ⟨Try.f36.name, by kernel_rfl, Try.func36.trans (congrArg some (by kernel_rfl))⟩
  f21 := ⟨Try.f37.name, by kernel_rfl, Try.func37.trans (congrArg some (by kernel_rfl))⟩
  f22 := ⟨Try.f38.name, by kernel_rfl, Try.func38.trans (congrArg some (by kernel_rfl))⟩
  f23 := ⟨Try.f39.name, by kernel_rfl, Try.func39.trans (congrArg some (by kernel_rfl))⟩
  f24 := ⟨Try.f40.name, by kernel_rfl, Try.func40.trans (congrArg some (by kernel_rfl))⟩
  f25 := ⟨Try.f41.name, by kernel_rfl, Try.func41.trans (congrArg some (by kernel_rfl))⟩
  f26 := ⟨Try.f42.name, by kernel_rfl, Try.func42.trans (congrArg some (by kernel_rfl))⟩
  f27 := ⟨Try.f43.name, by kernel_rfl, Try.func43.trans (congrArg some (by kernel_rfl))⟩
  f28 := Try.func44.trans (congrArg some (by kernel_rfl))
  f29 := Try.func45.trans (congrArg some (by kernel_rfl))
  f46 := ⟨Try.f47.name, by kernel_rfl, Try.func47.trans (congrArg some (by kernel_rfl))⟩
  f47 := Try.func48.trans (congrArg some (by kernel_rfl))
  f48 := Try.func49.trans (congrArg some (by kernel_rfl))
  f49 := ⟨Try.f50.name, by kernel_rfl, Try.func50.trans (congrArg some (by kernel_rfl))⟩
  f50 := ⟨Try.f51.name, by kernel_rfl, Try.func51.trans (congrArg some (by kernel_rfl))⟩
  f57 := ⟨Try.f52.name, by kernel_rfl, Try.func52.trans (congrArg some (by kernel_rfl))⟩
  t0 := Try.underlying0
  a0 := Try.isAgg0
  z0 := Try.sizeOf0
  v0 := Try.zeroValue0
  t3 := Try.underlying3
  a3 := Try.isAgg3
  z3 := Try.sizeOf3
  v3 := Try.zeroValue3
  t4 := Try.underlying4
  a4 := Try.isAgg4
  z4 := Try.sizeOf4
  v4 := Try.zeroValue4
  t5 := Try.underlying5
  a5 := Try.isAgg5
  z5 := Try.sizeOf5
  v5 := Try.zeroValue5
  t9 := Try.underlying9
  a9 := Try.isAgg9
  z9 := Try.sizeOf9
  v9 := Try.zeroValue9
  t22 := Try.underlying23
  a22 := Try.isAgg23
  z22 := Try.sizeOf23
  v22 := Try.zeroValue23
  t25 := Try.underlying63
  a25 := Try.isAgg63
  z25 := Try.sizeOf63
  v25 := Try.zeroValue63
  t39 := Try.underlying57
  a39 := Try.isAgg57
  z39 := Try.sizeOf57
  v39 := Try.zeroValue57
  t45 := Try.underlying72
  a45 := Try.isAgg72
  z45 := Try.sizeOf72
  v45 := Try.zeroValue72
  t46 := Try.underlying73
  a46 := Try.isAgg73
  z46 := Try.sizeOf73
  v46 := Try.zeroValue73
  t50 := Try.underlying77
  a50 := Try.isAgg77
  z50 := Try.sizeOf77
  v50 := Try.zeroValue77
  t53 := Try.underlying27
  a53 := Try.isAgg27
  z53 := Try.sizeOf27
  v53 := Try.zeroValue27
  t55 := Try.underlying81
  a55 := Try.isAgg81
  z55 := Try.sizeOf81
  v55 := Try.zeroValue81
  t66 := Try.underlying82
  a66 := Try.isAgg82
  z66 := Try.sizeOf82
  v66 := Try.zeroValue82
  t70 := Try.underlying86
  a70 := Try.isAgg86
  z70 := Try.sizeOf86
  v70 := Try.zeroValue86
  t76 := Try.underlying88
  a76 := Try.isAgg88
  z76 := Try.sizeOf88
  v76 := Try.zeroValue88
  t77 := Try.underlying89
  a77 := Try.isAgg89
  z77 := Try.sizeOf89
  v77 := Try.zeroValue89
instance : Inhabited Pg := ⟨⟨0, 0, 0, 0, 0, 0, 0, []⟩⟩
def encP (p : Pg) : List Value := (pgA p).toList
theorem encP_len (p : Pg) : (encP p).length = 39 := pgA_len p
theorem swo_cf : Go.Sort.SWO (ltOf cfP) where
  irrefl x := by
    unfold ltOf
    rw [decide_eq_false_iff_not, cfP_lt]
    omega
  trans x y z h1 h2 := by
    unfold ltOf at *
    rw [decide_eq_true_iff, cfP_lt] at *
    omega
  ntrans x y z h1 h2 := by
    unfold ltOf at *
    rw [decide_eq_false_iff_not, cfP_lt] at *
    omega
theorem enters26 : ∀ args w, (callFunc 26 args).run Try.prog w = .ok (.enter 26 args) w := fun args w => enters Try.func26 (by kernel_rfl) (by kernel_rfl) args w
theorem lays_cmp (blk off size : Nat) (w : World) : CmpLays Try.prog 26 #[] encP 39 cfP blk off size w := fun m os dk _ x y => by
  have := cmp_any x y (sortWorldK encP 39 w blk off m dk os)
  exact this
theorem keep_sort (w : World) (blk m : Nat) (d : Array Pg) (os : Array Obj) : Keep (fun b => b = blk) w (sortWorldK encP 39 w blk 0 m d os) := by
  refine ⟨rfl, rfl, rfl, size_sortWorldK_c encP 39 w blk 0 m d os, fun k hk hs => ?_⟩
  unfold sortWorldK
  rw [Go.Sort.heap_grow_old _ _ (by unfold Go.Sort.putRowK; rw [Go.Sort.size_putRow]; exact hk)]
  unfold Go.Sort.putRowK Go.Sort.putRow Go.Sort.mapBlock
  show (w.heap.modify blk _)[k]? = _
  rw [Array.getElem?_modify, if_neg (fun e => hs e.symm)]
theorem perm_all {d d' : Array Pg} (h : Go.Sort.PermIn 0 d.size d d') : d'.toList.Perm d.toList := by
  obtain ⟨h1, -, h3⟩ := h
  have e1 : d'.extract 0 d.size = d' := by rw [← h1]; exact Array.extract_size
  have e2 : d.extract 0 d.size = d := Array.extract_size
  rwa [e1, e2] at h3
/-- In order. -/
def Srt (D : List Pg) : Prop := ∀ i j, i < j → j < D.length → ¬ cfP (at0 D j) (at0 D i) < 0
theorem at0_arr (d : Array Pg) {i : Nat} (h : i < d.size) : d[i]! = at0 d.toList i := by
  rw [getElem!_pos d i h]
  simp [at0, List.getD, h]
/-- The sort, as a row of pages of one's own. -/
theorem sort_any {w0 w : World} {a : Option Addr} {cap : Nat} {l : List Pg} (h : Ro w0 w a cap l) (hl : l.length ≤ 1000000) :
    Calls Try.prog 25 #[.slice a l.length cap, .func (.func 26) #[] #[]] w fun e w' => e = .returned (.tuple #[]) ∧ ∃ D, D.Perm l ∧ Srt D ∧ Rg w' a cap D ∧ Keep (fun _ => False) w0 w' := by
  rcases h.own.2 with ⟨e, hn⟩ | ⟨g, c, cur, e, hb, hh, hn, hm, hs, ht⟩
  · injection e with e1 e2 e3
    obtain rfl := List.eq_nil_of_length_eq_zero hn
    subst e1 e3
    have := AnyF.slices_SortFunc_none laysS none 0 (.func (.func 26) #[] #[]) w
    exact this.mono (by rintro e w' ⟨rfl, rfl⟩; exact ⟨rfl, [], List.Perm.refl _, (fun i j _ hj => by simp at hj), h.rg, h.keep⟩)
  · injection e with e1 e2 e3
    subst e1 e3
    have hblk : g < w.heap.size := (h.block rfl).2
    have hH : Go.Sort.HoldsK encP 39 w g 0 l.toArray := by
      intro j hj
      rw [Go.Sort.size_flatK] at hj
      rw [Go.Sort.get_flatK _ _ _ _ hj]
      simp only [List.size_toArray] at hj
      have hi : j / 39 < l.length := by omega
      refine ⟨?_, ?_⟩
      · have hc := h.own.cells (g := g) rfl (j / 39 * 39 + j % 39) _ (pcells_at (p := l[j / 39]) (List.getElem?_eq_getElem hi) (j % 39) (by omega))
        rw [Addr.add_lit, show j / 39 * 39 + j % 39 = j by omega] at hc
        rw [hc]
        have e1 : (l.toArray)[j / 39]! = l[j / 39] := by rw [getElem!_pos l.toArray (j / 39) (by simpa using hi)]; simp
        rw [e1]
        have e2 : (encP l[j / 39])[j % 39]? = some (pcl l[j / 39] (j % 39)) := by
          have := pgA_get l[j / 39] (j % 39) (by omega)
          unfold encP
          rw [Array.getElem?_toList]
          exact this
        rw [getElem!_def, e2]
        rfl
      · simp [World.frozen?, hh]
    have hc := AnyQ.slices_SortFunc laysS 39 Try.isAgg33 Try.sizeOf33 encP encP_len (fun x v hv => pgA_one x v hv) cfP swo_cf 26 #[] g 0 cap l.toArray w enters26 (lays_cmp g 0 _ w) hH hblk (by simp; omega)
    rw [List.size_toArray] at hc
    refine hc.mono ?_
    rintro e w' ⟨rfl, d', m, os, hp, hsd, rfl⟩
    have hsz : d'.size = l.length := by have := hp.1; simpa using this
    have hp2 : d'.toList.Perm l := by
      have := perm_all (d := l.toArray) (d' := d') (by simpa using hp)
      simpa using this
    refine ⟨rfl, d'.toList, hp2, fun i j hij hj => ?_, ⟨by simp [hsz]; exact hn, by unfold maxLen at hm; omega, Or.inr ⟨g, 0, rfl, fun i p hpp j hj => ?_⟩⟩, ?_⟩
    · have hj' : j < d'.size := by simpa using hj
      have := hsd i j (by omega) hij (by omega)
      unfold ltOf at this
      rw [decide_eq_false_iff_not] at this
      rwa [at0_arr d' hj', at0_arr d' (by omega)] at this
    · have hi : i < d'.size := by have := (List.getElem?_eq_some_iff.1 hpp).1; simpa using this
      have hh2 := Go.Sort.HoldsK.cell (holdsK_sortWorldK_c encP 39 w g 0 l.toArray d' m os hH hblk (by simpa using hsz)) hi (c := j) hj
      rw [hh2.1]
      have e1 : d'[i]! = p := by
        rw [getElem!_pos d' i hi]
        have := (List.getElem?_eq_some_iff.1 hpp).2
        simpa using this
      rw [e1]
      have e2 : (encP p)[j]? = some (pcl p j) := by
        have := pgA_get p j hj
        unfold encP
        rw [Array.getElem?_toList]
        exact this
      rw [getElem!_def, e2]
    · exact h.keep.next (keep_sort w g m d' os) (fun x hx e => by subst e; have := (h.block rfl).1; omega)
end Tg
end Go.Proofs.Ytginnojbmpnleaa
