/-
  String of a builder (the library's own contract, laid at this program), the commands' methods, and Print over any memory.
-/
import Derived.Test.YtgilagmgepogbaaDoorSh
set_option linter.unusedVariables false
namespace Go.Proofs.YtgilagmgepogbaaDoor
open Go.Shelf
def laysStr_ren : Go.Shelf.Ren := ⟨fun | 169 => 23 | n => n, fun | 70 => 66 | 9 => 9 | 0 => 0 | 72 => 69 | 37 => 67 | 127 => 80 | 3 => 3 | 5 => 5 | n => n, fun | n => n⟩
theorem laysStr : Go.Proofs.Lays.n169 Tryd.prog laysStr_ren := {
  mixed := by kernel_rfl
  f169 := Tryd.func23.trans (congrArg some (by kernel_rfl))
  t0 := Tryd.underlying0
  a0 := Tryd.isAgg0
  z0 := Tryd.sizeOf0
  v0 := Tryd.zeroValue0
  t3 := Tryd.underlying3
  a3 := Tryd.isAgg3
  z3 := Tryd.sizeOf3
  v3 := Tryd.zeroValue3
  t9 := Tryd.underlying9
  a9 := Tryd.isAgg9
  z9 := Tryd.sizeOf9
  v9 := Tryd.zeroValue9
  t37 := Tryd.underlying67
  a37 := Tryd.isAgg67
  z37 := Tryd.sizeOf67
  v37 := Tryd.zeroValue67
  t70 := Tryd.underlying66
  a70 := Tryd.isAgg66
  z70 := Tryd.sizeOf66
  v70 := Tryd.zeroValue66
  t72 := Tryd.underlying69
  a72 := Tryd.isAgg69
  z72 := Tryd.sizeOf69
  v72 := Tryd.zeroValue69
  t127 := Tryd.underlying80
  a127 := Tryd.isAgg80
  z127 := Tryd.sizeOf80
  v127 := Tryd.zeroValue80 }
theorem extraStr : Builder.Extra Tryd.prog laysStr_ren := {
  sizeBuilder := by kernel_rfl
  liesBuilder := by kernel_rfl
  t5 := Tryd.underlying5
  a5 := Tryd.isAgg5
  z5 := Tryd.sizeOf5
  v5 := Tryd.zeroValue5
  infoByte := by kernel_rfl
  cellsByte := by kernel_rfl
  sizeByte := by kernel_rfl
  neB5 := by decide }
open Go.ChangeShapes Go.WideShapes Go.ChangeAt Go.RowKit
namespace Tg
open Qm Km

/-- String. -/
theorem string_any (b : Nat) (p : Option Addr) (hp : p = none ∨ p = some ⟨b, 0, none⟩) (l : List Nat) (hl : ∀ y ∈ l, y < 256) (w : World) (h : Bu w b p l) :
    Calls Tryd.prog 23 #[.pointer (some ⟨b, 0, none⟩)] w fun e w' => e = .returned (.string (str l)) ∧ Keep (fun z => b ≤ z) w w' := by
  have hlt : b < w.heap.size := h.lt
  have e : (l.map fun n : Nat => Value.int .u8 (n : Int)) = Lib.byteCells (l.map UInt8.ofNat) := by
    unfold Lib.byteCells
    rw [List.map_map]
    apply List.map_congr_left
    intro x hx
    have := hl x hx
    simp
    omega
  unfold Bu at h
  rw [e] at h
  have h' : Lib.IsBuilder 69 5 b b (Lib.byteCells (l.map UInt8.ofNat)) w := by
    rcases hp with rfl | rfl
    · exact Or.inl h
    · exact Or.inr h
  exact (Any.Builder_String_any laysStr extraStr b b _ w h' (Nat.le_of_lt hlt)).mono (by
    rintro e w' ⟨rfl, hb⟩
    exact ⟨rfl, ⟨hb.os, hb.tape, hb.output, hb.size, fun k hk hs => hb.block k (by omega)⟩⟩)

/-- What a command's values must be for its text to be told. -/
structure Cm.Fit (c : Cm) : Prop where
  kind : Kind c.k
  a : I64 c.a
  b : I64 c.b
  byte : ∀ x ∈ c.d, x < 256
  len : c.d.length ≤ 35184372088000
/-- Which function a command's method Text is. -/
def ctf (k : Nat) : FuncId := if k = 114 then 106 else if k = 119 then 104 else if k = 116 then 107 else if k = 99 then 108 else if k = 102 then 109 else if k = 109 then 110 else if k = 115 then 111 else 112
theorem text_any {c : Cm} (h : Cm.Fit c) (w : World) (hG : Gt w) : Calls Tryd.prog (ctf c.k) #[cag c] w fun e w' => e = .returned (.string (str (txt c))) ∧ Keep (fun _ => False) w w' := by
  obtain ⟨k, a, b, d⟩ := c
  obtain ⟨hk, ha, hb, hd, hl⟩ := h
  simp only at *
  rcases hk with rfl | rfl | rfl | rfl | rfl | rfl | rfl | rfl
  · exact text_read a b ha hb w hG
  · have := text_write a b ha hb (str d) (by rw [str_size]; exact hl) w hG
    rwa [bs_str hd] at this
  · exact text_trim a b ha hb w hG
  · exact text_cut a ha w hG
  · exact text_fail a ha w hG
  · exact text_mount a ha w hG
  · exact text_show w
  · exact text_stat w
set_option maxRecDepth 100000 in
theorem invoke_text {c : Cm} (h : Kind c.k) (w : World) : (invoke (.fn (.method "Text") #[]) #[cv c]).run Tryd.prog w = .ok (.enter (ctf c.k) #[cag c]) w := by
  obtain ⟨k, a, b, d⟩ := c
  simp only at h
  unfold cv cag
  rcases h with rfl | rfl | rfl | rfl | rfl | rfl | rfl | rfl
  all_goals kernel_rfl
/-- A step of a walk at a method of an interface's value. -/
theorem wpList_invoke {w : World} {ops : Array Oper} {rest : List Oper} {o : Oper} {a : Act} {Q : Exit → Act → World → Prop}
    (hw : Region.wanted o (yielded ops a.tmps) = true) (x : Operand) (nm : String) (hop : o.op = Op.call { callee := Callee.invoke x nm, args := #[], argTypes := #[] })
    {r : Value} {f : FuncId} {us : Array Value} {R : Value → World → Prop} (hr : a.eval x = r) (he : (invoke (.fn (.method nm) #[]) #[r]).run Tryd.prog w = .ok (.enter f us) w) (hc : Calls Tryd.prog f us w fun e w2 => ∃ v, e = .returned v ∧ R v w2)
    (hK : ∀ v w', R v w' → wpList Tryd.prog ops Q rest (a.put o.dst v) w') : wpList Tryd.prog ops Q (o :: rest) a w := by
  refine BigFrame.wpList_want hw fun K hK' => ?_
  subst hr
  obtain ⟨dst, op, ty, pos, after, guard⟩ := o
  simp only at hop
  subst hop
  have e0 : execOp a.eval { dst := dst, op := Op.call { callee := Callee.invoke x nm, args := #[], argTypes := #[] }, type := ty, pos := pos, after := after, guard := guard } = invoke (.fn (.method nm) #[]) (#[a.eval x] ++ (#[] : Array Operand).map a.eval) := rfl
  have e1 : #[a.eval x] ++ (#[] : Array Operand).map a.eval = #[a.eval x] := by simp
  unfold Oper.wp
  rw [e0, e1, he, Oper.upon_enter]
  exact hc.mono (by rintro e w2 ⟨v, rfl, hr⟩; exact hK' _ _ (hK v w2 hr))

theorem prt_snoc (L : List Cm) (c : Cm) : prt (L ++ [c]) = prt L ++ txt c ++ [10] := by simp [prt]
theorem prt_byte (L : List Cm) : ∀ x ∈ prt L, x < 256 := by
  intro x hx
  simp only [prt, List.mem_flatMap, List.mem_append, List.mem_singleton] at hx
  obtain ⟨c, _, h | h⟩ := hx
  · exact ((txt_front c).2 x h).2
  · omega

set_option maxHeartbeats 2000000 in
set_option maxRecDepth 100000 in
/-- Print. -/
theorem print_any (L : List Cm) (hF : ∀ c ∈ L, Cm.Fit c) (hP : (prt L).length ≤ 100000000) (hL : L.length ≤ 1000000) (a : Option Addr) (cap : Nat) (w : World) (hG : Gt w) (hR : Rd w a (cvs L)) :
    Calls Tryd.prog 10 #[.slice a L.length cap] w fun e w' => e = .returned (.string (str (prt L))) ∧ Keep (fun _ => False) w w' := by
  have HF : Hid ((∀ c ∈ L, Cm.Fit c) ∧ (prt L).length ≤ 100000000 ∧ L.length ≤ 1000000) := ⟨hF, hP, hL⟩
  have HG : Hid (Gt w) := hG
  have HR : Hid (Rd w a (cvs L)) := hR
  clear hF hP hL hG hR
  go_enter Tryd.func10, Tryd.ntmps10
  go_wp2_with fail
  go_loopw [8] (fun x wr => ∃ (i : Nat) (p : Option Addr), x = .int .i64 (i : Nat) ∧ i ≤ L.length ∧ Keep (fun _ => False) w wr ∧ (p = none ∨ p = some ⟨w.heap.size, 0, none⟩) ∧ Bu wr w.heap.size p (prt (L.take i))) (fun x _ => L.length - (intOf x).toNat)
  case atStart => exact ⟨0, none, rfl, by omega, (Keep.refl _ _).alloc _, Or.inl rfl, Bu.fresh w⟩
  case round =>
    obtain ⟨i, p, rfl, hi, hk, hp, hB⟩ := hrel
    by_cases hlt : i < L.length
    · have hcell : ∃ b o, a = some ⟨b, o, none⟩ ∧ wr.cell? ⟨b, o + i, none⟩ = some (cv L[i]) := by
        rcases HR.out.keep hk with h | ⟨b, o, h1, h2⟩
        · have := congrArg List.length h
          simp only [cvs, List.length_map, List.length_nil] at this; omega
        · exact ⟨b, o, h1, h2 i _ (by simp [cvs, hlt])⟩
      obtain ⟨b, o, rfl, hc⟩ := hcell
      have hf := HF.out.1 L[i] (List.getElem_mem hlt)
      have hin := invoke_text (c := L[i]) hf.kind
      have htx := text_any hf wr (HG.out.keep hk)
      have hts : prt (L.take (i + 1)) = prt (L.take i) ++ txt L[i] ++ [10] := by rw [List.take_succ_eq_append_getElem hlt, prt_snoc]
      have hll : (prt (L.take i)).length + (txt L[i]).length + 1 ≤ 100000000 := by
        have h1 := HF.out.2.1
        have h2 : prt L = prt (L.take (i + 1)) ++ prt (L.drop (i + 1)) := by
          conv => lhs; rw [← List.take_append_drop (i + 1) L]
          simp only [prt, List.flatMap_append]
        rw [h2, hts] at h1
        simp at h1
        omega
      have hxb := fun x (h : x ∈ txt L[i]) => ((txt_front L[i]).2 x h).2
      have j1 : (i : Int) < L.length := by omega
      have j2 : IntKind.i64.wrap ((i : Int) + 1) = (i : Int) + 1 := by have := HF.out.2.2; rw [IntKind.wrap_i64]; omega
      generalize ctf L[i].k = F at *
      generalize txt L[i] = T at *
      have hcv : cv L[i] = .iface (cty L[i].k) (cag L[i]) := rfl
      rw [hcv] at hc hin
      generalize cty L[i].k = TY at *
      generalize cag L[i] = AG at *
      generalize prt (L.take i) = M at *
      have HK : Hid (Keep (fun _ => False) w wr) := hk
      have HT : Hid (prt (L.take (i + 1)) = M ++ T ++ [10]) := hts
      clear hf hk hts hcv
      have hI := hin wr
      go_wp2_with (refine wpList_invoke rfl (.tmp 12) "Text" rfl (by rfl) hI (htx.mono (fun e w2 ⟨h1, h2⟩ => ⟨_, h1, ⟨rfl, h2⟩⟩) : Calls Tryd.prog F #[AG] wr fun e w2 => ∃ v, e = .returned v ∧ (fun v w2 => v = .string (str T) ∧ Keep (fun _ => False) wr w2) v w2) ?_)
      rintro _ w2 rfl k2
      have hp2 := puts_any w.heap.size p hp M T hxb (by omega) w2 (hB.keep k2 (fun _ _ e => e))
      go_wp2_with fail
      refine hp2.mono ?_
      rintro e w3 ⟨v3, rfl, hB3, k3⟩
      have hp3 := putb_any w.heap.size _ (Or.inr rfl) (M ++ T) 10 (by rw [List.length_append]; omega) w3 hB3
      go_wp2_with fail
      refine hp3.mono ?_
      rintro e w4 ⟨v4, rfl, hB4, k4⟩
      have HE : Hid (Keep (fun _ => False) w w4 ∧ Bu w4 w.heap.size (some ⟨w.heap.size, 0, none⟩) (prt (L.take (i + 1)))) := by
        refine ⟨?_, by rw [HT.out]; exact hB4⟩
        have k34 := k3.trans k4
        have hs := HK.out.size; have hs2 := k2.size
        exact ⟨k34.os.trans (k2.os.trans HK.out.os), k34.tape.trans (k2.tape.trans HK.out.tape), k34.output.trans (k2.output.trans HK.out.output), Nat.le_trans hs (Nat.le_trans hs2 k34.size), fun j hj _ => by
          rw [k34.block j (by omega) (by omega), k2.block j (by omega) (fun e => e)]; exact HK.out.block j hj (fun e => e)⟩
      clear hB hB3 hB4 k2 k3 k4 hp2 hp3
      go_wp2_with fail
      go_roundw
      case rel => exact ⟨i + 1, _, by rw [Int.natCast_add]; rfl, by omega, HE.out.1, Or.inr rfl, HE.out.2⟩
      case measure => simp [intOf]; omega
    · obtain rfl : i = L.length := by omega
      have j1 : ¬ (L.length : Int) < L.length := by omega
      rw [List.take_length] at hB
      have hst := string_any w.heap.size p hp (prt L) (prt_byte L) wr hB
      have HK : Hid (Keep (fun _ => False) w wr) := hk
      generalize hX : str (prt L) = X at *
      have HX : Hid (str (prt L) = X) := hX
      clear hB hp hk hX
      go_wp2_with fail
      refine hst.mono ?_
      rintro e w2 ⟨rfl, k2⟩
      go_wp2_with fail
      go_ret
      refine ⟨by rw [HX.out]; rfl, ?_⟩
      have hs := HK.out.size
      exact ⟨k2.os.trans HK.out.os, k2.tape.trans HK.out.tape, k2.output.trans HK.out.output, Nat.le_trans hs k2.size, fun j hj _ => by
        rw [k2.block j (by omega) (by omega)]; exact HK.out.block j hj (fun e => e)⟩
end Tg
end Go.Proofs.YtgilagmgepogbaaDoor
