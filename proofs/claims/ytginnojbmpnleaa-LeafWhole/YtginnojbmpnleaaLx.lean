/-
  Streams and picks as they are read one by one.
-/
import Derived.Test.YtginnojbmpnleaaLv
namespace Go.Proofs.Ytginnojbmpnleaa
open Go.ChangeShapes Go.WideShapes Go.ChangeAt Go.RowKit
namespace Tg
def rwA (r : Raw) : Array Value := #[.int .i64 r.k, .int .u32 r.e, .int .u32 r.g, .slice r.a r.len r.cap]
theorem rwA_get (r : Raw) (i : Nat) (hi : i < 4) : (rwA r)[i]? = some (rwc r i) := by
  rcases (by omega : i = 0 ∨ i = 1 ∨ i = 2 ∨ i = 3) with rfl | rfl | rfl | rfl <;> rfl
theorem rwA_size (r : Raw) : (rwA r).size = 4 := rfl
theorem raw_range {w : World} {b o : Nat} {r : Raw} (h : ∀ j, j < 4 → w.cell? ⟨b, o + j, none⟩ = some (rwc r j)) : w.rangeAt b o (rwA r).toList := by
  intro j v hv
  have hj : j < 4 := by have := (List.getElem?_eq_some_iff.1 hv).1; simpa [rwA] using this
  rw [h j hj, ← hv, Array.getElem?_toList, rwA_get r j hj]
theorem sizeQ30 : (Try.prog.info? 30).map (·.size) = some 4 := by kernel_rfl
theorem raw_load30 {w : World} {b o : Nat} {r : Raw} (h : ∀ j, j < 4 → w.cell? ⟨b, o + j, none⟩ = some (rwc r j)) : (Instr.loadAt 30 (.pointer (some ⟨b, o, none⟩))).run Try.prog w = .ok (.agg (rwA r)) w := by
  have := run_loadAt_mid (P := Try.prog) w b o 30 (rwA r).toList _ (raw_range h) Try.underlying30 rfl (by rw [sizeQ30]; rfl)
  simpa using this
theorem new_raw30 (w : World) (r : Raw) : ∃ w', (Instr.storeAt 30 (.pointer (some ⟨w.heap.size, 0, none⟩)) (.agg (rwA r))).run Try.prog (w.alloc (.cells #[.int .i64 0, .int .u32 0, .int .u32 0, .slice none 0 0] 30)) = .ok () w' ∧ Blk w' w.heap.size 4 (rwc r) ∧ Keep (fun _ => False) w w' := by
  have h : Blk (w.alloc (.cells #[.int .i64 0, .int .u32 0, .int .u32 0, .slice none 0 0] 30)) w.heap.size 4 (rwc ⟨0, 0, 0, none, 0, 0⟩) := blk_alloc w _ 30 4 _ (fun i hi => rwA_get ⟨0, 0, 0, none, 0, 0⟩ i hi)
  have ht : (w.alloc (.cells #[.int .i64 0, .int .u32 0, .int .u32 0, .slice none 0 0] 30)).there w.heap.size 0 (rwA r).size := fun j hj => by rw [rwA_size] at hj; exact ⟨by rw [(h (0 + j) (by omega)).1]; rfl, (h (0 + j) (by omega)).2⟩
  refine ⟨_, run_storeAt_mid _ w.heap.size 0 30 (rwA r) ht (by rw [rwA_size]; exact sizeQ30) (by simp [rwA, Value.oneCell']), ?_, ((Keep.refl (fun _ => False) w).alloc _).next ((Keep.refl (fun k => k = w.heap.size) _).setCells (b := w.heap.size) (Or.inl rfl) _ _) (fun x hx e => by omega)⟩
  exact Blk.congr (Blk.setCells h 0 4 (rwc r) (by omega)) (fun i hi => by rw [if_pos (by omega), Nat.sub_zero])
theorem sizeQ36 : (Try.prog.info? 36).map (·.size) = some 4 := by kernel_rfl
theorem raw_load36 {w : World} {b o : Nat} {r : Raw} (h : ∀ j, j < 4 → w.cell? ⟨b, o + j, none⟩ = some (rwc r j)) : (Instr.loadAt 36 (.pointer (some ⟨b, o, none⟩))).run Try.prog w = .ok (.agg (rwA r)) w := by
  have := run_loadAt_mid (P := Try.prog) w b o 36 (rwA r).toList _ (raw_range h) Try.underlying36 rfl (by rw [sizeQ36]; rfl)
  simpa using this
theorem new_raw36 (w : World) (r : Raw) : ∃ w', (Instr.storeAt 36 (.pointer (some ⟨w.heap.size, 0, none⟩)) (.agg (rwA r))).run Try.prog (w.alloc (.cells #[.int .i64 0, .int .u32 0, .int .u32 0, .slice none 0 0] 36)) = .ok () w' ∧ Blk w' w.heap.size 4 (rwc r) ∧ Keep (fun _ => False) w w' := by
  have h : Blk (w.alloc (.cells #[.int .i64 0, .int .u32 0, .int .u32 0, .slice none 0 0] 36)) w.heap.size 4 (rwc ⟨0, 0, 0, none, 0, 0⟩) := blk_alloc w _ 36 4 _ (fun i hi => rwA_get ⟨0, 0, 0, none, 0, 0⟩ i hi)
  have ht : (w.alloc (.cells #[.int .i64 0, .int .u32 0, .int .u32 0, .slice none 0 0] 36)).there w.heap.size 0 (rwA r).size := fun j hj => by rw [rwA_size] at hj; exact ⟨by rw [(h (0 + j) (by omega)).1]; rfl, (h (0 + j) (by omega)).2⟩
  refine ⟨_, run_storeAt_mid _ w.heap.size 0 36 (rwA r) ht (by rw [rwA_size]; exact sizeQ36) (by simp [rwA, Value.oneCell']), ?_, ((Keep.refl (fun _ => False) w).alloc _).next ((Keep.refl (fun k => k = w.heap.size) _).setCells (b := w.heap.size) (Or.inl rfl) _ _) (fun x hx e => by omega)⟩
  exact Blk.congr (Blk.setCells h 0 4 (rwc r) (by omega)) (fun i hi => by rw [if_pos (by omega), Nat.sub_zero])
/-- A pick's cells. -/
def pkc (f0 f1 f2 f3 : Int) (j : Nat) : Value := .int .i64 (if j = 0 then f0 else if j = 1 then f1 else if j = 2 then f2 else f3)
/-- A row of picks that is read. -/
def Rpk (w : World) (a : Option Addr) (n cap : Nat) : Prop :=
  n ≤ cap ∧ cap ≤ 9223372036854775807 ∧ (n = 0 ∨ ∃ g o, a = some ⟨g, o, none⟩ ∧ ∀ i, i < n → ∃ f0 f1 f2 f3 : Int, ∀ j, j < 4 → w.cell? ⟨g, o + i * 4 + j, none⟩ = some (pkc f0 f1 f2 f3 j))
theorem Rpk.at {w : World} {a : Option Addr} {n cap : Nat} (h : Rpk w a n cap) {i : Nat} (hi : i < n) :
    ∃ g o, a = some ⟨g, o, none⟩ ∧ ∃ f0 f1 f2 f3 : Int, ∀ w', Keep (fun _ => False) w w' → ∀ j, j < 4 → w'.cell? ⟨g, o + i * 4 + j, none⟩ = some (pkc f0 f1 f2 f3 j) := by
  rcases h.2.2 with rfl | ⟨g, o, rfl, hc⟩
  · omega
  · obtain ⟨f0, f1, f2, f3, hf⟩ := hc i hi
    refine ⟨g, o, rfl, f0, f1, f2, f3, fun w' k j hj => ?_⟩
    have c0 := hf j hj
    rw [← c0]
    exact World.cell?_of_block (w := w) (a := ⟨g, o + i * 4 + j, none⟩) (k.block g (World.block_lt_of_cell? w _ c0) (fun e => e))
theorem Rpk.more {w w' : World} {a : Option Addr} {n cap : Nat} (h : Rpk w a n cap) (k : Keep (fun _ => False) w w') : Rpk w' a n cap := by
  refine ⟨h.1, h.2.1, ?_⟩
  by_cases c : n = 0
  · exact Or.inl c
  · rcases h.2.2 with rfl | ⟨g, o, rfl, -⟩
    · exact absurd rfl c
    · refine Or.inr ⟨g, o, rfl, fun i hi => ?_⟩
      obtain ⟨g', o', e, f0, f1, f2, f3, hf⟩ := h.at hi
      injection e with e
      injection e with e1 e2
      subst e1 e2
      exact ⟨f0, f1, f2, f3, hf w' k⟩
theorem size45 : (Try.prog.info? 45).map (·.size) = some 4 := by kernel_rfl
theorem pick_load {w : World} {b o : Nat} {f0 f1 f2 f3 : Int} (h : ∀ j, j < 4 → w.cell? ⟨b, o + j, none⟩ = some (pkc f0 f1 f2 f3 j)) : (Instr.loadAt 45 (.pointer (some ⟨b, o, none⟩))).run Try.prog w = .ok (.agg #[.int .i64 f0, .int .i64 f1, .int .i64 f2, .int .i64 f3]) w := by
  have hr : w.rangeAt b o [.int .i64 f0, .int .i64 f1, .int .i64 f2, .int .i64 f3] := by
    intro j v hv
    have hj : j < 4 := by have := (List.getElem?_eq_some_iff.1 hv).1; simpa using this
    rw [h j hj, ← hv]
    rcases (by omega : j = 0 ∨ j = 1 ∨ j = 2 ∨ j = 3) with rfl | rfl | rfl | rfl <;> rfl
  exact run_loadAt_mid (P := Try.prog) w b o 45 _ _ hr Try.underlying45 rfl (by rw [size45]; rfl)
theorem load3 {w : World} {b o : Nat} {v : Int} (h : w.cell? ⟨b, o, none⟩ = some (.int .i64 v)) : (Instr.loadAt 3 (.pointer (some ⟨b, o, none⟩))).run Try.prog w = .ok (.int .i64 v) w := by
  go_simp
theorem load27 {w : World} {b o : Nat} {v : Int} (h : w.cell? ⟨b, o, none⟩ = some (.int .u32 v)) : (Instr.loadAt 27 (.pointer (some ⟨b, o, none⟩))).run Try.prog w = .ok (.int .u32 v) w := by
  go_simp
theorem load28 {w : World} {b o : Nat} {a : Option Addr} {n c : Nat} (h : w.cell? ⟨b, o, none⟩ = some (.slice a n c)) : (Instr.loadAt 28 (.pointer (some ⟨b, o, none⟩))).run Try.prog w = .ok (.slice a n c) w := by
  go_simp
/-- Streams as an argument. -/
def ArgS (w : World) (a : Option Addr) (n cap : Nat) (rs : List Raw) (L : List St) : Prop := Rws w a cap rs ∧ rs.length = n ∧ Says w rs L ∧ ∀ s ∈ L, (0 ≤ s.ep ∧ s.ep ≤ 4294967295) ∧ (0 ≤ s.gr ∧ s.gr ≤ 4294967295)
theorem ArgS.more {w w' : World} {a : Option Addr} {n cap : Nat} {rs : List Raw} {L : List St} (h : ArgS w a n cap rs L) (k : Keep (fun _ => False) w w') : ArgS w' a n cap rs L := ⟨h.1.more k, h.2.1, h.2.2.1.more k, h.2.2.2⟩
/-- One of the streams of an argument. -/
theorem ArgS.at {w : World} {a : Option Addr} {n cap : Nat} {rs : List Raw} {L : List St} (h : ArgS w a n cap rs L) {i : Nat} (hi : i < n) :
    ∃ g o, a = some ⟨g, o, none⟩ ∧ ∃ r s, rs[i]? = some r ∧ L[i]? = some s ∧ r.k = s.kind ∧ r.e = s.ep ∧ r.g = s.gr ∧ (0 ≤ s.ep ∧ s.ep ≤ 4294967295) ∧ (0 ≤ s.gr ∧ s.gr ≤ 4294967295) ∧ ∀ w', Keep (fun _ => False) w w' → Row w' r.a r.len r.cap s.bytes ∧ ∀ j, j < 4 → w'.cell? ⟨g, o + i * 4 + j, none⟩ = some (rwc r j) := by
  obtain ⟨h1, h2, h3, h4⟩ := h
  obtain ⟨r, hr⟩ : ∃ r, rs[i]? = some r := ⟨_, List.getElem?_eq_getElem (by omega)⟩
  obtain ⟨s, hs⟩ : ∃ s, L[i]? = some s := ⟨_, List.getElem?_eq_getElem (by have := h3.1; omega)⟩
  obtain ⟨e1, e2, e3, hrow⟩ := h3.2 i r s hr hs
  obtain ⟨g, o, rfl, hc⟩ := h1.at hr
  obtain ⟨b1, b2⟩ := h4 s (List.mem_of_getElem? hs)
  refine ⟨g, o, rfl, r, s, hr, hs, e1, e2, e3, b1, b2, fun w' k => ⟨hrow.moreV k, ?_⟩⟩
  obtain ⟨g', o', e, hc'⟩ := (h1.more k).at hr
  injection e with e
  injection e with e1 e2
  subst e1 e2
  exact hc'
/-- A row behind a row of one's own, its sizes as letters; it may be nil. -/
theorem Ro.appY2 {w0 w : World} {a b : Option Addr} {cap c n1 n2 n3 : Nat} {m ns : List Pg} (h : Ro w0 w a cap m) (hz : Rg w b c ns) (hb : b = none → ns = [] ∧ c = 0) (hm : m.length = n1) (hn : ns.length = n2) (h3 : n1 + n2 = n3) (hl : n3 ≤ 1000000) :
    ∃ a' cap' w', (Builtin.append_ #[23, 23] 23 #[.slice a n1 cap, .slice b n2 c]).run Try.prog w = .ok (.slice a' n3 cap') w' ∧ Ro w0 w' a' cap' (m ++ ns) ∧ (m ++ ns).length = n3 := by
  subst hm hn h3
  obtain ⟨a', cap', w', h1, h2, -, -⟩ := h.appZ hz hb hl
  exact ⟨a', cap', w', h1, h2, by simp⟩
theorem cutP_none {a : Option Addr} {c t : Nat} (h : cutP a c t = none) : a = none := by
  unfold cutP at h
  split at h
  · exact h
  · cases a with
    | none => rfl
    | some y => cases h
end Tg
end Go.Proofs.Ytginnojbmpnleaa
