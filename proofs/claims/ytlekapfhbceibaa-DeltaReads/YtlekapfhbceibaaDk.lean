/-
  Rows of changes of any length, copied and made longer.
-/
import Derived.Test.YtlekapfhbceibaaDj
namespace Go.Proofs.Ytlekapfhbceibaa
open Go.ChangeShapes Go.WideShapes Go.ChangeAt Go.RowKit
namespace Tg
set_option maxRecDepth 100000 in
theorem Rp.appL {w0 w : World} {a : Option Addr} {cap : Nat} {m : List Rn} (h : Rp w0 w a cap m) (x : Addr) (c : Nat) (ns : List Rn) (hl : m.length + ns.length ≤ 5864062014805) (hnews : ∀ j u, (rcells ns)[j]? = some u → w.cell? (x.add j) = some u) :
    ∃ a' cap' w', (Builtin.append_ #[29, 29] 29 #[.slice a m.length cap, .slice (some x) ns.length c]).run Try.prog w = .ok (.slice a' (m.length + ns.length) cap') w' ∧ Rp w0 w' a' cap' (m ++ ns) ∧ Keep (fun b => w0.heap.size ≤ b) w w' := by
  obtain ⟨i, hi, hz0, hz1, hz2⟩ := info_parts info30p
  have hs := h.keep.size
  obtain ⟨v', w', hrun, hown, hgrow, hnil⟩ := run_append_own (P := Try.prog) w w0.heap.size 29 29 28 i _ 3 24 Try.underlying29 hi hz0 hz1 hz2 rfl (by decide) (.slice a m.length cap) m.length (rcells m) h.own
    x ns.length c (rcells ns) (rcells_len ns) hnews (by intro u hu; obtain ⟨y, _, hy⟩ := List.mem_flatMap.1 hu; simp [rcs] at hy; rcases hy with rfl | rfl | rfl <;> rfl) (by unfold maxLen; omega) (by omega) hs
  have hk : Keep (fun b => w0.heap.size ≤ b) w w' := (keep_grown hgrow).mono (fun b _ e => (h.own.lt b e.symm).1)
  have hK : Keep (fun _ => False) w0 w' := h.keep.next hk (fun y hy e => by omega)
  rw [← rcells_app, ← List.length_append] at hown
  have hshape : ∃ a' cap', v' = .slice a' (m ++ ns).length cap' := by
    rcases hown.2 with ⟨e, hn⟩ | ⟨g, c', cur, e, -⟩
    · exact ⟨none, 0, by rw [hn]; exact e⟩
    · exact ⟨_, _, e⟩
  obtain ⟨a', cap', rfl⟩ := hshape
  exact ⟨a', cap', w', by rw [hrun, List.length_append], ⟨hown, hK⟩, hk⟩
theorem copy_opsL {w : World} {a : Option Addr} {c : Nat} {x : List Rn} (h : Rz w a c x) (hx : x.length ≤ 5864062014805) : ∃ a1 c1 w1, (Builtin.append_ #[29, 29] 29 #[.slice (some ⟨w.heap.size, 0, none⟩) 0 0, .slice a x.length c]).run Try.prog (w.alloc (.cells #[] 28)) = .ok (.slice a1 x.length c1) w1 ∧ Rp w w1 a1 c1 x := by
  cases a with
  | none =>
    have : x = [] := by
      rcases h.2.2 with e | ⟨g, o, e, -⟩
      · exact e
      · cases e
    subst this
    exact ⟨_, _, _, run_app_none _ _ _, rp_made w⟩
  | some ad =>
    obtain ⟨a1, c1, w1, h1, h2, -⟩ := (rp_made w).appL ad c x (by simp; omega) (h.more ((Keep.refl _ _).alloc _)).hcells
    rw [List.length_nil, Nat.zero_add] at h1
    exact ⟨a1, c1, w1, h1, h2⟩
end Tg
end Go.Proofs.Ytlekapfhbceibaa
