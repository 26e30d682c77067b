/-
  Proved: for every three rows of bytes the call of the statement CrcLinear returns true, and what was handed in reads as before; the one condition is the form's own, that a row takes no more bytes than a process can address.
-/
import Derived.Test.YtmobcidcpfecbaaRows
import Derived.Test.YtmobcidcpfecbaaTold
import Derived.WalkKit
import Derived.ProofKit
import Derived.OpenShut
import Derived.ShutString
import Derived.ChangeOld
import Derived.Below
import Derived.SizedLaws
namespace Go.Proofs.Ytmobcidcpfecbaa.crcLinear
open Go.ChangeShapes Go.WideShapes Go.ChangeAt Go.RowKit
open Go.ChangeMaps (open_string shut_string)
set_option linter.unusedVariables false

theorem own : ownKnob Try.prog.godebug = none := by kernel_rfl
theorem laidOut : laidOutB Try.prog = true := by kernel_rfl

namespace Walk
open Crc
set_option maxHeartbeats 1000000 in
theorem linear_out (a b d : Option Addr) (la ca lb cb ld cd : Nat) (w : World) (hne : ¬ (la = lb ∧ la = ld)) :
    Calls Try.prog 7 #[.slice a la ca, .slice b lb cb, .slice d ld cd] w fun e w' => e = .returned (.bool true) ∧ Below w.heap.size w w' := by
  by_cases h0 : la = lb
  · have h1 : ((la : Int) != (lb : Int)) = false := by simp; omega
    have h2 : ((la : Int) != (ld : Int)) = true := by simp; omega
    clear hne h0
    go_enter Try.func7, Try.ntmps7
    go_wp2_with (go_at_call 8; refine (awake_any _).mono ?_; rintro e w' ⟨rfl, hb⟩)
    go_ret
    exact ⟨rfl, hb⟩
  · have h1 : ((la : Int) != (lb : Int)) = true := by simp; omega
    clear hne h0
    go_enter Try.func7, Try.ntmps7
    go_wp2_with (go_at_call 8; refine (awake_any _).mono ?_; rintro e w' ⟨rfl, hb⟩)
    go_ret
    exact ⟨rfl, hb⟩

theorem make_bytes (len : Nat) (hlen : len ≤ 140737488351232) (u : World) : (Instr.makeSlice 25 (.int .i64 (len : Int)) (.int .i64 (len : Int))).run Try.prog u =
    .ok (.slice (some ⟨u.heap.size, 0, none⟩) len len) (u.alloc (.cells (madeCells #[.int .u8 0] len) 5)) := by
  obtain ⟨i0, hi, hz0, hz1, hz2⟩ := info_parts info5
  have h := run_make (P := Try.prog) u 25 5 i0 (.int .u8 0) Try.underlying25 hi hz0 .i64 .i64 (len : Int) (len : Int) (by omega) (Int.le_refl _) (by rw [hz2]; omega) (by omega)
  rw [Int.toNat_natCast] at h
  simpa [hz1, Value.cells] using h

theorem made_row (len : Nat) (hlen : len ≤ 140737488351232) (u : World) : Row (u.alloc (.cells (madeCells #[.int .u8 0] len) 5)) (some ⟨u.heap.size, 0, none⟩) len len (List.replicate len 0) ∧ Free (u.alloc (.cells (madeCells #[.int .u8 0] len) 5)) u.heap.size len := by
  have hm : madeCells #[.int .u8 0] len = ((List.replicate len (0 : Int)).map (Value.int .u8)).toArray := by
    apply Array.ext
    · simp [madeCells]
    · intro i h1 h2
      simp [madeCells, Nat.mod_one]
  constructor
  · have := row_new u (List.replicate len 0) (0, 0) u.heap.size len rfl (by simp) (by omega) (fun n hn => by rw [List.eq_of_mem_replicate hn]; omega)
    rw [List.length_replicate, ← hm] at this
    exact this
  · intro i hi
    constructor
    · rw [hm, World.cell?_alloc_mark]; simp [hi]
    · simp only [World.frozen?]
      rw [heap_alloc_new]
      simp

/-- The row behind the first k bytes. -/
def lin (l m n : List Int) (len : Nat) : Nat → List Int
  | 0 => List.replicate len 0
  | k + 1 => (lin l m n len k).set k (bits .xor .u8 (bits .xor .u8 (l.getD k 0) (m.getD k 0)) (n.getD k 0))

theorem row_at {w : World} {a : Option Addr} {len cap : Nat} {l : List Int} (h : Row w a len cap l) {i : Nat} (hi : i < len) : ∃ b o, a = some ⟨b, o, none⟩ ∧ b < w.heap.size ∧ ∀ j, j < len → w.cell? ⟨b, o + j, none⟩ = some (.int .u8 (l.getD j 0)) := by
  rcases h.2.2.2.2 with h0 | ⟨b, o, e, hc⟩
  · omega
  · exact ⟨b, o, e, World.block_lt_of_cell? w _ (hc i hi), hc⟩

theorem row_drew {w : World} {a : Option Addr} {len cap : Nat} {l : List Int} (h : Row w a len cap l) : Row w.drew a len cap l := h
theorem free_drew {w : World} {g cap : Nat} (h : Free w g cap) : Free w.drew g cap := h
theorem ret_bool {a : Bool} (h : a = true) : Ending.returned (.bool a) = .returned (.bool true) := by rw [h]

theorem lin_length (l m n : List Int) (len k : Nat) : (lin l m n len k).length = len := by
  induction k with
  | zero => simp [lin]
  | succ k ih => simp [lin, ih]

theorem lin_getD (l m n : List Int) (len k : Nat) (hk : k ≤ len) : ∀ i, i < k → (lin l m n len k).getD i 0 = bits .xor .u8 (bits .xor .u8 (l.getD i 0) (m.getD i 0)) (n.getD i 0) := by
  induction k with
  | zero => intro i hi; omega
  | succ k ih =>
    intro i hi
    have hlen : k < (lin l m n len k).length := by rw [lin_length]; omega
    by_cases e : i = k
    · subst e
      simp [lin, List.getD, hlen]
    · rw [← ih (by omega) i (by omega)]
      simp [lin, List.getD, Ne.symm e]

def both (l m : List Int) (len : Nat) : List Int := (List.range len).map fun i => bits .xor .u8 (l.getD i 0) (m.getD i 0)
theorem both_getD (l m : List Int) (len i : Nat) (hi : i < len) : (both l m len).getD i 0 = bits .xor .u8 (l.getD i 0) (m.getD i 0) := by
  simp [both, List.getD, hi]

theorem lin_more (l m n : List Int) (len : Nat) (hl : l.length = len) (hm : m.length = len) (hn : n.length = len) (bl : ∀ x ∈ l, 0 ≤ x ∧ x ≤ 255) (bm : ∀ x ∈ m, 0 ≤ x ∧ x ≤ 255) (bn : ∀ x ∈ n, 0 ≤ x ∧ x ≤ 255) :
    more 0#32 (lin l m n len len) = more 0#32 l ^^^ more 0#32 m ^^^ more 0#32 n := by
  have h1 : ∀ x y, run (x ^^^ y) (both l m len) = run x l ^^^ run y m := fun x y =>
    run_xor l m _ x y (by omega) (by simp [both, hl]) fun i hi => by
      rw [both_getD _ _ _ _ (by omega)]; exact byteOf_xor (getD_bound bl i) (getD_bound bm i)
  have h2 : ∀ x y, run (x ^^^ y) (lin l m n len len) = run x (both l m len) ^^^ run y n := fun x y =>
    run_xor (both l m len) n _ x y (by simp [both, hn]) (by simp [both, lin_length]) fun i hi => by
      have hi : i < len := by simpa [both] using hi
      rw [both_getD _ _ _ _ hi, lin_getD l m n len len (Nat.le_refl _) i hi]
      exact byteOf_xor (xor8_bd _ _) (getD_bound bn i)
  have e : ~~~ 0#32 = (~~~ 0#32 ^^^ ~~~ 0#32) ^^^ ~~~ 0#32 := by decide
  have h3 : run (~~~ 0#32) (lin l m n len len) = run (~~~ 0#32) l ^^^ run (~~~ 0#32) m ^^^ run (~~~ 0#32) n := by
    conv => lhs; rw [e]
    rw [h2, h1]
  simp only [more]
  rw [h3]
  generalize run (~~~ 0#32) l = A
  generalize run (~~~ 0#32) m = B
  generalize run (~~~ 0#32) n = C
  apply BitVec.eq_of_getLsbD_eq
  intro i hi
  simp only [BitVec.getLsbD_xor, BitVec.getLsbD_not, hi, decide_true, Bool.true_and]
  cases A.getLsbD i <;> cases B.getLsbD i <;> cases C.getLsbD i <;> rfl

set_option maxHeartbeats 1000000 in
theorem linear_in (a b d : Option Addr) (len ca cb cd : Nat) (l m n : List Int) (w : World) (hlen : len ≤ 140737488351232) (hr : Row w a len ca l) (hs : Row w b len cb m) (ht : Row w d len cd n) :
    Calls Try.prog 7 #[.slice a len ca, .slice b len cb, .slice d len cd] w fun e w' => e = .returned (.bool true) ∧ Below w.heap.size w w' := by
  go_enter Try.func7, Try.ntmps7
  go_wp2_with fail
  refine (awake_any _).mono ?_
  rintro e w1 ⟨rfl, hb1⟩
  have hr1 := hr.below hb1
  have hs1 := hs.below hb1
  have ht1 := ht.below hb1
  have hmk := make_bytes len hlen w1
  obtain ⟨hro, hfo⟩ := made_row len hlen w1
  have hb2 : Below w1.heap.size w1 (w1.alloc (.cells (madeCells #[.int .u8 0] len) 5)) := (Below.refl _ _).alloc (Nat.le_refl _) _
  go_wp2_with fail
  clear hmk
  go_loopw [8] (fun i wr => ∃ k : Nat, k ≤ len ∧ i = .int .i64 k ∧ Row wr (some ⟨w1.heap.size, 0, none⟩) len len (lin l m n len k) ∧ Free wr w1.heap.size len ∧ Below w1.heap.size w1 wr) (fun i _ => len - (intOf i).toNat)
  case atStart => exact ⟨0, by omega, rfl, hro, hfo, hb2⟩
  case round =>
    obtain ⟨k, hk, rfl, hrk, hfk, hbk⟩ := hrel
    by_cases hlt : k < len
    · have hck := hrk.cellAt hlt
      obtain ⟨hso, hfz⟩ := hfk k hlt
      obtain ⟨b1, o1, rfl, _, c1⟩ := row_at (hr1.below hbk) hlt
      obtain ⟨b2, o2, rfl, _, c2⟩ := row_at (hs1.below hbk) hlt
      obtain ⟨b3, o3, rfl, _, c3⟩ := row_at (ht1.below hbk) hlt
      replace c1 := c1 k hlt
      replace c2 := c2 k hlt
      replace c3 := c3 k hlt
      have x1 := getD_bound hr.2.2.2.1 k
      have x2 := getD_bound hs.2.2.2.1 k
      have x3 := getD_bound ht.2.2.2.1 k
      have HC : Hid (lin l m n len (k + 1) = (lin l m n len k).set k (bits .xor .u8 (bits .xor .u8 (l.getD k 0) (m.getD k 0)) (n.getD k 0))) := rfl
      clear hr1 hs1 ht1 hr hs ht hro hfo hb2 hso
      generalize l.getD k 0 = y1 at *
      generalize m.getD k 0 = y2 at *
      generalize n.getD k 0 = y3 at *
      go_wp2_with fail
      go_region
      go_wp2_with fail
      refine ⟨⟨k + 1, by omega, by go_num, ?_, free_drew (hfk.set _ _), (hbk.setCell (Nat.le_refl _) _).drew⟩, by simp [intOf]; omega⟩
      rw [HC.out]
      exact row_drew (hrk.set hlt (xor8_bd _ _))
    · obtain rfl : k = len := by omega
      have g1 := hr1.below hbk
      have g2 := hs1.below hbk
      have g3 := ht1.below hbk
      have hbw : Below w.heap.size w wr := hb1.trans (hbk.mono hb1.size)
      have hm := lin_more l m n k hr.1 hs.1 ht.1 hr.2.2.2.1 hs.2.2.2.1 ht.2.2.2.1
      have HM : Hid (val (more 0#32 (lin l m n k k)) = bits .xor .u32 (bits .xor .u32 (val (more 0#32 l)) (val (more 0#32 m))) (val (more 0#32 n))) := by show _ = _; rw [hm, bxor, bxor]
      clear hm hr1 hs1 ht1 hr hs ht hro hfo hb2 hbk hfk hb1
      go_wp2_with fail
      refine (sum_any _ _ _ _ _ hrk).mono ?_
      rintro e w' ⟨rfl, rfl⟩
      go_wp2_with fail
      refine (sum_any _ _ _ _ _ g1).mono ?_
      rintro e w' ⟨rfl, rfl⟩
      go_wp2_with fail
      refine (sum_any _ _ _ _ _ g2).mono ?_
      rintro e w' ⟨rfl, rfl⟩
      go_wp2_with fail
      refine (sum_any _ _ _ _ _ g3).mono ?_
      rintro e w' ⟨rfl, rfl⟩
      go_wp2_with fail
      go_ret
      exact ⟨ret_bool (by rw [HM.out]; simp), hbw⟩

theorem linear_any (a b d : Option Addr) (la ca lb cb ld cd : Nat) (l m n : List Int) (w : World) (hlen : la ≤ 140737488351232) (hr : Row w a la ca l) (hs : Row w b lb cb m) (ht : Row w d ld cd n) :
    Calls Try.prog 7 #[.slice a la ca, .slice b lb cb, .slice d ld cd] w fun e w' => e = .returned (.bool true) ∧ Below w.heap.size w w' := by
  by_cases h : la = lb ∧ la = ld
  · obtain ⟨rfl, rfl⟩ := h
    exact linear_in a b d la ca cb cd l m n w hlen hr hs ht
  · exact linear_out a b d la ca lb cb ld cd w h
end Walk

set_option maxRecDepth 100000 in
theorem lifted (os : Os) (started : os.Started) (H : Type) (enc : TypeId × Value → H) :
    ReturnsInHanded {} Try.checked os 7 .any (Rows.crcLinearSpec.pre6 enc Try.prog Try.f7 Rows.crcLinearRow.domain false) (Rows.crcLinearSpec.post enc Try.prog Try.f7 false true false false) := by
  refine returnsInHanded_of_change_sized (C := Try.checked) own started (by kernel_rfl) Try.func7
    (ChangeSpec.witness6 (enc := enc) (C := Try.checked) false ⟨#[], #[.slice none 0 0, .slice none 0 0, .slice none 0 0], []⟩ 8 (by kernel_rfl) (by kernel_rfl) (by kernel_rfl) (by kernel_rfl)) ?_
  intro W base args ds gs before hval0 hW _ hsz0 _
  have hsz : (DataW.weightsEach Try.prog (Try.f7.params.toList ++ Rows.crcLinearSpec.plain.varTypes Try.prog) (ds ++ gs)).all (· ≤ reachBytes) = true := hsz0
  clear hsz0
  have hval : ∀ (j : Nat) t v, Try.f7.params[j]? = some t → args[j]? = some v → Value.okWide Try.prog W .any base t v := hval0
  have hW' := hW
  obtain ⟨p, q, hA0, hV, rfl, hfz, hnd⟩ := hW
  have hA : DataW.TrodAll enc Try.prog W 0 (fun _ => true) true Try.f7.params.toList args.toList ds p := hA0
  rw [Try.params7] at hA hval hsz
  obtain ⟨v0, vs0, d0, ds0, p0, q0, hargs, rfl, rfl, h0, r0⟩ := trodAll_cons hA
  obtain ⟨v1, vs1, d1, ds1, p1, q1, rfl, rfl, rfl, h1, r1⟩ := trodAll_cons r0
  obtain ⟨v2, vs2, d2, ds2, p2, q2, rfl, rfl, rfl, h2, r2⟩ := trodAll_cons r1
  obtain ⟨rfl, rfl, rfl⟩ := trodAll_nil r2
  obtain rfl : args = #[v0, v1, v2] := by cases args; simp_all
  obtain ⟨rfl, rfl⟩ := trodVars_none hV
  obtain ⟨a0, len0, cap0, rfl⟩ := okWide_slice Try.underlying25 (hval 0 25 v0 rfl rfl)
  have k0 := h0
  have lt0 : ∀ x ∈ p0, x.block < W.heap.size := by obtain ⟨m, hm⟩ := k0; exact DataW.trod_lt m _ _ _ hm
  obtain ⟨l0, row0, x0⟩ := Crc.open_bytes h0
  have n0 : len0 ≤ 140737488351232 := by
    rcases x0 with ⟨_, e⟩ | ⟨el, sp, e, e1, e2⟩
    · omega
    · subst e
      have := sized_slice hsz (j := 0) (t := 25) (e := 5) rfl rfl Try.underlying25
      rw [Crc.bytes5] at this
      simp only [reachBytes] at this
      omega
  obtain ⟨a1, len1, cap1, rfl⟩ := okWide_slice Try.underlying25 (hval 1 25 v1 rfl rfl)
  have k1 := h1
  have lt1 : ∀ x ∈ p1, x.block < W.heap.size := by obtain ⟨m, hm⟩ := k1; exact DataW.trod_lt m _ _ _ hm
  obtain ⟨l1, row1, x1⟩ := Crc.open_bytes h1
  have n1 : len1 ≤ 140737488351232 := by
    rcases x1 with ⟨_, e⟩ | ⟨el, sp, e, e1, e2⟩
    · omega
    · subst e
      have := sized_slice hsz (j := 1) (t := 25) (e := 5) rfl rfl Try.underlying25
      rw [Crc.bytes5] at this
      simp only [reachBytes] at this
      omega
  obtain ⟨a2, len2, cap2, rfl⟩ := okWide_slice Try.underlying25 (hval 2 25 v2 rfl rfl)
  have k2 := h2
  have lt2 : ∀ x ∈ p2, x.block < W.heap.size := by obtain ⟨m, hm⟩ := k2; exact DataW.trod_lt m _ _ _ hm
  obtain ⟨l2, row2, x2⟩ := Crc.open_bytes h2
  have n2 : len2 ≤ 140737488351232 := by
    rcases x2 with ⟨_, e⟩ | ⟨el, sp, e, e1, e2⟩
    · omega
    · subst e
      have := sized_slice hsz (j := 2) (t := 25) (e := 5) rfl rfl Try.underlying25
      rw [Crc.bytes5] at this
      simp only [reachBytes] at this
      omega
  clear hA0 hval0
  refine (Walk.linear_any a0 a1 a2 len0 cap0 len1 cap1 len2 cap2 l0 l1 l2 W n0 row0 row1 row2).mono fun e W' ⟨he, bel⟩ => ?_
  subst he
  exact ⟨_, rfl, _, _, _, [], _, [], hW', trodAll_mk1 (shut_bool Try.underlying4 _), (trodAll_cons_mk (Below.trod laidOut (by kernel_rfl) (of_decide_eq_true (by kernel_rfl)) k0 bel lt0) (trodAll_cons_mk (Below.trod laidOut (by kernel_rfl) (of_decide_eq_true (by kernel_rfl)) k1 bel lt1) (trodAll_cons_mk (Below.trod laidOut (by kernel_rfl) (of_decide_eq_true (by kernel_rfl)) k2 bel lt2) trodAll_mk0))), rfl, bel.frame _, fun h => by cases h⟩

theorem over : Rows.crcLinearRow.holds Try.pinned (OpenSpec.ofChange Rows.crcLinearSpec) :=
  OpenClaim.holds_of_wide 7 Try.f7 rfl rfl rfl rfl rfl rfl rfl ⟨rfl, rfl, rfl, rfl, rfl⟩ rfl rfl rfl rfl rfl (by kernel_rfl) Try.func7 (by kernel_rfl)
    (of_decide_eq_true (by kernel_rfl)) (by unfold Func.isWrapper; first | (rw [if_pos (by decide +kernel)]; kernel_rfl) | (rw [if_neg (by decide +kernel)]; exact ⟨rfl, rfl⟩))
    (fun os started H enc _ => lifted os started H enc)

theorem proved : Rows.CrcLinearSaid := over
#print axioms proved
end Go.Proofs.Ytmobcidcpfecbaa.crcLinear
