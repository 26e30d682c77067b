/-
  The library's Itoa (its own contract, laid at this program), the script's tell and each command's Text over any memory.
-/
import Derived.Test.YtgilagmgepogbaaDoorSe
import Derived.Shelf.Strconv.Itoa3
import Derived.Lib.SmallJoins
set_option linter.unusedVariables false
namespace Go.Proofs.YtgilagmgepogbaaDoor
open Go.Shelf
def laysItoa_ren : Go.Shelf.Ren := ⟨fun | 171 => 74 | 243 => 75 | 246 => 76 | 283 => 77 | 284 => 78 | 285 => 79 | 286 => 80 | 129 => 82 | 317 => 81 | 318 => 83 | 319 => 84 | 320 => 85 | 337 => 86 | 338 => 87 | n => n, fun | 3 => 3 | 9 => 9 | 2 => 2 | 4 => 4 | 171 => 122 | 0 => 0 | 53 => 105 | 37 => 67 | 5 => 5 | 173 => 125 | 212 => 129 | 51 => 104 | 20 => 20 | 213 => 130 | 46 => 108 | 232 => 134 | 233 => 135 | n => n, fun | 17 => 2 | 18 => 3 | 19 => 4 | n => n⟩
theorem laysItoa : Go.Proofs.LaysM.n171 Tryd.prog laysItoa_ren := {
  mixed := by kernel_rfl
  f129 := Tryd.func82.trans (congrArg some (by kernel_rfl))
  f171 := Tryd.func74.trans (congrArg some (by kernel_rfl))
  f243 := Tryd.func75.trans (congrArg some (by kernel_rfl))
  f246 := Tryd.func76.trans (congrArg some (by kernel_rfl))
  f283 := Tryd.func77.trans (congrArg some (by kernel_rfl))
  f284 := Tryd.func78.trans (congrArg some (by kernel_rfl))
  f285 := Tryd.func79.trans (congrArg some (by kernel_rfl))
  f286 := Tryd.func80.trans (congrArg some (by kernel_rfl))
  f317 := Tryd.func81.trans (congrArg some (by kernel_rfl))
  f318 := Tryd.func83.trans (congrArg some (by kernel_rfl))
  f319 := Tryd.func84.trans (congrArg some (by kernel_rfl))
  f320 := Tryd.func85.trans (congrArg some (by kernel_rfl))
  f337 := Tryd.func86.trans (congrArg some (by kernel_rfl))
  f338 := Tryd.func87.trans (congrArg some (by kernel_rfl))
  t0 := Tryd.underlying0
  a0 := Tryd.isAgg0
  z0 := Tryd.sizeOf0
  v0 := Tryd.zeroValue0
  t2 := Tryd.underlying2
  a2 := Tryd.isAgg2
  z2 := Tryd.sizeOf2
  v2 := Tryd.zeroValue2
  t3 := Tryd.underlying3
  a3 := Tryd.isAgg3
  z3 := Tryd.sizeOf3
  v3 := Tryd.zeroValue3
  t4 := Tryd.underlying4
  a4 := Tryd.isAgg4
  z4 := Tryd.sizeOf4
  v4 := Tryd.zeroValue4
  t5 := Tryd.underlying5
  a5 := Tryd.isAgg5
  z5 := Tryd.sizeOf5
  v5 := Tryd.zeroValue5
  t9 := Tryd.underlying9
  a9 := Tryd.isAgg9
  z9 := Tryd.sizeOf9
  v9 := Tryd.zeroValue9
  t20 := Tryd.underlying20
  a20 := Tryd.isAgg20
  z20 := Tryd.sizeOf20
  v20 := Tryd.zeroValue20
  t37 := Tryd.underlying67
  a37 := Tryd.isAgg67
  z37 := Tryd.sizeOf67
  v37 := Tryd.zeroValue67
  t46 := Tryd.underlying108
  a46 := Tryd.isAgg108
  z46 := Tryd.sizeOf108
  v46 := Tryd.zeroValue108
  t51 := Tryd.underlying104
  a51 := Tryd.isAgg104
  z51 := Tryd.sizeOf104
  v51 := Tryd.zeroValue104
  t53 := Tryd.underlying105
  a53 := Tryd.isAgg105
  z53 := Tryd.sizeOf105
  v53 := Tryd.zeroValue105
  t171 := Tryd.underlying122
  a171 := Tryd.isAgg122
  z171 := Tryd.sizeOf122
  v171 := Tryd.zeroValue122
  t173 := Tryd.underlying125
  a173 := Tryd.isAgg125
  z173 := Tryd.sizeOf125
  v173 := Tryd.zeroValue125
  t212 := Tryd.underlying129
  a212 := Tryd.isAgg129
  z212 := Tryd.sizeOf129
  v212 := Tryd.zeroValue129
  t213 := Tryd.underlying130
  a213 := Tryd.isAgg130
  z213 := Tryd.sizeOf130
  t232 := Tryd.underlying134
  a232 := Tryd.isAgg134
  z232 := Tryd.sizeOf134
  v232 := Tryd.zeroValue134
  t233 := Tryd.underlying135
  a233 := Tryd.isAgg135
  z233 := Tryd.sizeOf135
  v233 := Tryd.zeroValue135
  g17 := by kernel_rfl
  g18 := by kernel_rfl
  g19 := by kernel_rfl
  i0 := by kernel_rfl
  i2 := by kernel_rfl
  i3 := by kernel_rfl
  i4 := by kernel_rfl
  i5 := by kernel_rfl
  i9 := by kernel_rfl
  i20 := by kernel_rfl
  i37 := by kernel_rfl
  i46 := by kernel_rfl
  i51 := by kernel_rfl
  i53 := by kernel_rfl
  i171 := by kernel_rfl
  i173 := by kernel_rfl
  i212 := by kernel_rfl
  i232 := by kernel_rfl
  i233 := by kernel_rfl
  m17 := by kernel_rfl
  m18 := by kernel_rfl
  m19 := by kernel_rfl }
open Go.ChangeShapes Go.WideShapes Go.ChangeAt Go.RowKit
namespace Tg
open Qm Km

/-- What the library's variables hold: an error, and the powers of ten. -/
def Gt (w : World) : Prop := Gl w ∧ Lib.TabIs Tryd.prog w "internal/strconv.uint64pow10" .u64 Lib.pow10Tab
theorem gPow : Tryd.prog.globalNamed "internal/strconv.uint64pow10" = some 2 := by kernel_rfl
theorem Gt.keep {w w' : World} (h : Gt w) (k : Keep (fun _ => False) w w') : Gt w' := ⟨h.1.keep k, Go.Joins.tab_stays gPow h.2 (k.below (Nat.le_refl _) (fun _ e => e.elim)) (Nat.le_refl _)⟩
theorem keep_grow (w : World) (k : Nat) (os : Array Obj) : Keep (fun _ => False) w (Go.Sort.grow (w.drewN k) os) :=
  ⟨rfl, rfl, rfl, by simp [World.drewN], fun i hi _ => by rw [Go.Sort.heap_grow_old _ _ (by simpa [World.drewN] using hi)]; rfl⟩
/-- Itoa. -/
theorem itoa_any (n : Int) (h0 : -9223372036854775808 ≤ n) (h1 : n ≤ 9223372036854775807) (w : World) (hG : Gt w) : Calls Tryd.prog 74 #[.int .i64 n] w fun e w' => e = .returned (.string (str (nt n))) ∧ Keep (fun _ => False) w w' :=
  (Any.strconv_Itoa laysItoa n h0 h1 w hG.2).mono (by
    rintro e w' ⟨rfl, k, os, rfl⟩
    exact ⟨by rw [nt_lib], keep_grow w k os⟩)

/-- Numbers told one behind the other. -/
def tls (ns : List Int) : List Nat := ns.flatMap fun n => 32 :: nt n
theorem tls_snoc (ns : List Int) (n : Int) : tls (ns ++ [n]) = tls ns ++ (32 :: nt n) := by simp [tls]
theorem tls_len (ns : List Int) (h : ∀ n ∈ ns, -9223372036854775808 ≤ n ∧ n ≤ 9223372036854775807) : (tls ns).length ≤ 22 * ns.length := by
  induction ns with
  | nil => simp [tls]
  | cons n ns ih =>
    have h1 := nt_len (h n (List.mem_cons_self ..)).1 (h n (List.mem_cons_self ..)).2
    have h2 := ih fun m hm => h m (List.mem_cons_of_mem _ hm)
    simp only [tls, List.flatMap_cons, List.length_append, List.length_cons] at *
    omega
def ics (ns : List Int) : List Value := ns.map (Value.int .i64)

set_option maxHeartbeats 1000000 in
set_option maxRecDepth 100000 in
/-- tell. -/
theorem tell_any (N : List Nat) (hN : N.length ≤ 10) (ns : List Int) (hl : ns.length ≤ 2) (hb : ∀ n ∈ ns, -9223372036854775808 ≤ n ∧ n ≤ 9223372036854775807) (a : Option Addr) (cap : Nat) (w : World) (hG : Gt w) (hR : Rd w a (ics ns)) :
    Calls Tryd.prog 105 #[.string (str N), .slice a ns.length cap] w fun e w' => e = .returned (.string (str (N ++ tls ns))) ∧ Keep (fun _ => False) w w' := by
  have HG : Hid (Gt w) := hG
  have HR : Hid (Rd w a (ics ns)) := hR
  have HB : Hid ((∀ n ∈ ns, -9223372036854775808 ≤ n ∧ n ≤ 9223372036854775807) ∧ ns.length ≤ 2 ∧ N.length ≤ 10) := ⟨hb, hl, hN⟩
  clear hG hR hb hl hN
  go_enter Tryd.func105, Tryd.ntmps105
  go_wp2_with fail
  go_loopw [0, 9] (fun x y wr => ∃ i : Nat, x = .string (str (N ++ tls (ns.take i))) ∧ y = .int .i64 (i : Nat) ∧ i ≤ ns.length ∧ Keep (fun _ => False) w wr) (fun _ y _ => ns.length - (intOf y).toNat)
  case atStart => exact ⟨0, by simp [tls], rfl, by omega, Keep.refl _ _⟩
  case round =>
    obtain ⟨i, rfl, rfl, hi, hk⟩ := hrel
    by_cases hlt : i < ns.length
    · have hcell : ∃ b o, a = some ⟨b, o, none⟩ ∧ wr.cell? ⟨b, o + i, none⟩ = some (.int .i64 ns[i]) := by
        rcases HR.out.keep hk with h | ⟨b, o, h1, h2⟩
        · have := congrArg List.length h
          simp only [ics, List.length_map, List.length_nil] at this; omega
        · exact ⟨b, o, h1, h2 i _ (by simp [ics, hlt])⟩
      obtain ⟨b, o, rfl, hc⟩ := hcell
      have hn := HB.out.1 ns[i] (List.getElem_mem hlt)
      have hit := itoa_any ns[i] hn.1 hn.2 wr (HG.out.keep hk)
      have hs1 : (str (N ++ tls (ns.take i))).size ≤ 100 := by
        rw [str_size, List.length_append]
        have := tls_len (ns.take i) fun n h => HB.out.1 n (List.mem_of_mem_take h)
        have := HB.out
        rw [List.length_take] at *
        omega
      have hs2 : (str (nt ns[i])).size ≤ 21 := by rw [str_size]; exact nt_len hn.1 hn.2
      have HE : Hid (str (N ++ tls (ns.take i)) ++ ((⟨#[32]⟩ : ByteArray) ++ str (nt ns[i])) = str (N ++ tls (ns.take (i + 1)))) := by
        show _ = _
        rw [show (⟨#[32]⟩ : ByteArray) = str [32] from rfl, str_append, str_append, List.take_succ_eq_append_getElem hlt, tls_snoc, ← List.append_assoc]
        simp
      have HB2 := HB.out.2.1
      generalize str (N ++ tls (ns.take i)) = X at *
      generalize str (nt ns[i]) = Y at *
      generalize ns[i] = nn at *
      have j1 : (i : Int) < ns.length := by omega
      have j2 : IntKind.i64.wrap ((i : Int) + 1) = (i : Int) + 1 := by rw [IntKind.wrap_i64]; omega
      have j3 : ¬ 9223372036854775807 < 1 + Y.size := by omega
      have j4 : ¬ 9223372036854775807 < X.size + (1 + Y.size) := by omega
      have KW : Hid (Keep (fun _ => False) w wr) := hk
      clear hn hk hs1 hs2 HR
      go_wp2_with fail
      refine hit.mono ?_
      rintro e w2 ⟨rfl, k2⟩
      go_wp2_with fail
      go_roundw
      case rel => exact ⟨i + 1, by rw [← HE.out], by rw [Int.natCast_add]; rfl, by omega, KW.out.trans k2⟩
      case measure => simp [intOf]; omega
    · obtain rfl : i = ns.length := by omega
      have j1 : ¬ (ns.length : Int) < ns.length := by omega
      have KW : Hid (Keep (fun _ => False) w wr) := hk
      rw [List.take_length]
      clear hk hi hlt
      go_wp2_with fail
      go_ret
      exact ⟨rfl, KW.out⟩
end Tg
end Go.Proofs.YtgilagmgepogbaaDoor
