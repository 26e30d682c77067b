/-
  Struct literals of pages: rows of numbers, payloads, loads and comparisons as the walks want them.
-/
import Derived.Test.YtgohmjidbbecpaaRefC
import Derived.Test.YtgohmjidbbecpaaTorn
import Derived.Test.YtgohmjidbbecpaaWords
namespace Go.Proofs.Ytgohmjidbbecpaa
open Go.ChangeShapes Go.WideShapes Go.ChangeAt Go.RowKit
namespace Tg
open Crc

theorem call12 (args : Array Value) (w : World) : (callFunc 12 args).run Try.prog w = .ok (.enter 12 args) w := enters Try.func12 (by kernel_rfl) (by kernel_rfl) args w
theorem pay_post (s : ByteArray) (hs : s.size ≤ maxLen) (w0 w : World) (h : Keep (fun _ => False) w0 w) : Calls Try.prog 12 #[.string s] w fun e w' => ∃ v, e = .returned v ∧ (fun v w' => v = .agg (payA (sbyte s)) ∧ Keep (fun _ => False) w0 w') v w' :=
  (payload_any s w hs).mono (by rintro e w' ⟨rfl, hk⟩; exact ⟨_, rfl, rfl, h.trans hk⟩)
theorem pay_post' (s : ByteArray) (hs : s.size ≤ maxLen) (w : World) : Calls Try.prog 12 #[.string s] w fun e w' => ∃ v, e = .returned v ∧ (fun v w' => v = .agg (payA (sbyte s)) ∧ Keep (fun _ => False) w w') v w' := pay_post s hs w w (Keep.refl _ _)

theorem kind3 {a : Int} (h0 : 0 ≤ a) : IntKind.i64.wrap (1 + IntKind.i64.wrap (a.tmod 3)) = 1 + a % 3 := by
  rw [Int.tmod_eq_emod_of_nonneg h0, IntKind.wrap_i64, IntKind.wrap_i64]; omega
/-- Six numbers behind those that came in: two appends. -/
theorem words_any {w : World} {a : Option Addr} {len cap : Nat} {l : List Int} (hr : Tw.Row w a len cap l) (hl : len ≤ 35184372087808) :
    ∃ g1 cap1 w1 g2 cap2 w2, (Builtin.append_ #[34, 34] 34 #[.slice (some ⟨w.heap.size, 0, none⟩) 0 0, .slice a len cap]).run Try.prog (w.alloc (.cells #[] 27)) = .ok (.slice (some ⟨g1, 0, none⟩) len cap1) w1 ∧
      (Builtin.append_ #[34, 34] 34 #[.slice (some ⟨g1, 0, none⟩) len cap1, .slice (some ⟨w1.heap.size, 0, none⟩) 6 6]).run Try.prog (w1.alloc (.cells #[.int .u32 0, .int .u32 0, .int .u32 0, .int .u32 0, .int .u32 0, .int .u32 0] 27)) = .ok (.slice (some ⟨g2, 0, none⟩) (len + 6) cap2) w2 ∧
      Keep (fun _ => False) w w2 ∧ ∃ v : Nat → Int, ∀ j, j < 6 → w2.cell? ⟨g2, j, none⟩ = some (.int .u32 (v j)) ∧ 0 ≤ v j ∧ v j ≤ 4294967295 := by
  have hk0 : Keep (fun _ => False) w (w.alloc (.cells #[] 27)) := (Keep.refl _ _).alloc _
  obtain ⟨g1, cap1, w1, hrun1, hrow1, hk1, hg1, hf1⟩ := Tw.append_rows (w.alloc (.cells #[] 27)) w.heap.size 0 0 [] ⟨rfl, by omega, by omega, by simp, Or.inl rfl⟩ (fun i hi => by omega) a len cap l (hr.keep hk0 (fun _ _ _ e => e)) (by omega)
  rw [Nat.zero_add] at hrun1 hrow1
  rw [List.nil_append] at hrow1
  have hK1 : Keep (fun _ => False) w w1 := hk0.next hk1 (fun x hx e => by omega)
  have hn1 : w.heap.size ≤ g1 := by rcases hg1 with rfl | h; omega; simp at h; omega
  have hkA : Keep (fun _ => False) w1 (w1.alloc (.cells #[.int .u32 0, .int .u32 0, .int .u32 0, .int .u32 0, .int .u32 0, .int .u32 0] 27)) := (Keep.refl _ _).alloc _
  obtain ⟨g2, cap2, w2, hrun2, hrow2, hk2, hg2, hf2⟩ := Tw.append_rows _ g1 cap1 len l (hrow1.keep hkA (fun _ _ _ e => e)) (hf1.keep hkA (fun e => e)) (some ⟨w1.heap.size, 0, none⟩) 6 6 [0, 0, 0, 0, 0, 0] (Tw.row_new w1 [0, 0, 0, 0, 0, 0] (0, 0) w1.heap.size 6 rfl (by simp) (by omega) (by decide)) (by omega)
  refine ⟨g1, cap1, w1, g2, cap2, w2, hrun1, hrun2, (hK1.trans hkA).next hk2 (fun x hx e => by omega), fun j => (l ++ [0, 0, 0, 0, 0, 0]).getD j 0, fun j hj => ⟨hrow2.cellAt (by omega), Tw.getD_bound hrow2.2.2.2.1 j⟩⟩

theorem yields_load {P : Program} {ops : Array Oper} {S : World → Prop} {o : Oper} {a : Act} {v v1 : Value} (hw : Region.wanted o (yielded ops a.tmps) = true) (t : TypeId) (x : Operand) (hop : o.op = Op.load t x) (hx : a.eval x = v1) (h : ∀ w, S w → (Instr.loadAt t v1).run P w = .ok v w) : YieldsIf P ops S o v a := by
  refine Or.inl ⟨hw, fun w hS => ?_⟩
  simp [execOp, hop, hx, h w hS]
theorem yields_conv {P : Program} {ops : Array Oper} {S : World → Prop} {o : Oper} {a : Act} {v v1 : Value} (hw : Region.wanted o (yielded ops a.tmps) = true) (s t : TypeId) (x : Operand) (hop : o.op = Op.convert s t x) (hx : a.eval x = v1) (h : ∀ w, S w → (convert s t v1).run P w = .ok v w) : YieldsIf P ops S o v a := by
  refine Or.inl ⟨hw, fun w hS => ?_⟩
  simp [execOp, hop, hx, h w hS]
theorem guard30 : Try.prog.eqGuardType Try.prog.depth 30 = false := by kernel_rfl
theorem yields_eq30 {ops : Array Oper} {S : World → Prop} {o : Oper} {a : Act} {k k' : Int} {v v' d d' : Nat → Int} {r : Bool} (hw : Region.wanted o (yielded ops a.tmps) = true) (x y : Operand) (hop : o.op = Op.binOp .eql 30 x y 30) (hx : a.eval x = .agg (pageA k v d)) (hy : a.eval y = .agg (pageA k' v' d')) (hr : samePage k k' v v' d d' = r) : YieldsIf Try.prog ops S o (.bool r) a := by
  refine Or.inl ⟨hw, fun w hS => ?_⟩
  have h1 := run_eqGuard_agg (P := Try.prog) w .eql 30 x y (pageA k v d) (pageA k' v' d') guard30
  have h2 := run_eql_struct (P := Try.prog) w 30 (pageA k v d) (pageA k' v' d')
  rw [eq30, hr] at h2
  simp only [Result.andThen_ok] at h2
  simp only [execOp, hop, hx, hy]
  simp only [Sem.run_bind, h1, h2, Result.andThen_ok, Sem.run_pure]

/-- Two pages' bytes are alike just where the pages are. -/
theorem bytes_same {k k' : Int} {v v' d d' : Nat → Int} (hv : ∀ j, j < 6 → 0 ≤ v j ∧ v j ≤ 4294967295) (hv' : ∀ j, j < 6 → 0 ≤ v' j ∧ v' j ≤ 4294967295) (hk : 1 ≤ k ∧ k ≤ 3) (hk' : 1 ≤ k' ∧ k' ≤ 3) (hd : ∀ i, 0 ≤ d i ∧ d i ≤ 255) (hd' : ∀ i, 0 ≤ d' i ∧ d' i ≤ 255) :
    ((strOfNums (tab 68 (ebyte k v d))).toList == (strOfNums (tab 68 (ebyte k' v' d'))).toList) = samePage k k' v v' d d' := by
  rw [str_eq (tab_byte (ebyte_bd k v d hk hd)) (tab_byte (ebyte_bd k' v' d' hk' hd')), Bool.eq_iff_iff, decide_eq_true_eq, samePage_iff]
  constructor
  · intro h
    have he : ∀ i, i < 68 → ebyte k v d i = ebyte k' v' d' i := fun i hi => by rw [← tab_get (ebyte k v d) hi, h, tab_get _ hi]
    rw [← page_back k v d hv, ← page_back k' v' d' hv', he 0 (by omega)]
    refine pageA_congr (fun j hj => ?_) (fun i hi => he _ (by omega))
    exact num_congr (fun i hi => he _ (by omega))
  · intro h
    obtain ⟨h0, h1, h2⟩ := pageA_inj h
    refine tab_congr (fun i hi => ?_)
    have hpl : ∀ i, i < 60 → plain k v d i = plain k' v' d' i := fun i hi => by
      subst h0
      have hp : part k v 6 i = part k v' 6 i := by
        unfold part
        by_cases e0 : i = 0
        · simp only [if_pos e0]
        · by_cases e4 : i < 4
          · simp only [if_neg e0, if_pos e4]
          · by_cases e5 : i < 4 + 4 * 6
            · simp only [if_neg e0, if_neg e4, if_pos e5]; rw [h1 _ (by omega)]
            · simp only [if_neg e0, if_neg e4, if_neg e5]
      unfold plain
      by_cases e : i < 28
      · simp only [if_pos e]; exact hp
      · simp only [if_neg e, if_pos hi]; exact h2 _ (by omega)
    unfold ebyte
    by_cases e : i < 60
    · rw [if_pos e, if_pos e, hpl i e]
    · rw [if_neg e, if_neg e]
      by_cases e2 : i < 64
      · rw [if_pos e2, if_pos e2]; unfold psum; rw [tab_congr hpl]
      · rw [if_neg e2, if_neg e2]
theorem six_bd {u : Nat → Int} (h : ∀ j, j < 6 → 0 ≤ u j ∧ u j ≤ 4294967295) : ∀ j, j < 6 → 0 ≤ six (u 0) (u 1) (u 2) (u 3) (u 4) (u 5) j ∧ six (u 0) (u 1) (u 2) (u 3) (u 4) (u 5) j ≤ 4294967295 := by
  intro j hj
  have : j = 0 ∨ j = 1 ∨ j = 2 ∨ j = 3 ∨ j = 4 ∨ j = 5 := by omega
  rcases this with rfl | rfl | rfl | rfl | rfl | rfl <;> exact h _ (by omega)
end Tg
end Go.Proofs.Ytgohmjidbbecpaa
