/-
  ScriptBack, over any memory: the commands and their texts.
-/
import Derived.Test.YtgilagmgepogbaaDoorRh
import Derived.Test.YtgilagmgepogbaaDoorLc
set_option linter.unusedVariables false
namespace Go.Proofs.YtgilagmgepogbaaDoor
open Go.ChangeShapes Go.WideShapes Go.ChangeAt Go.RowKit
namespace Tg
open Qm Km

/-- A command by numbers. -/
structure Sy where
  k : Int
  a : Int
  b : Int
  d : ByteArray
def Sy.cm (x : Sy) : Cm := cof x.k x.a x.b x.d
/-- A row of commands by numbers that is read. -/
structure Sys (w : World) (a : Option Addr) (L : List Sy) : Prop where
  num : ∀ x ∈ L, I64 x.a ∧ I64 x.b ∧ x.d.size ≤ 1048576
  row : L = [] ∨ ∃ b o, a = some ⟨b, o, none⟩ ∧ ∀ i (h : i < L.length), w.cell? ⟨b, o + i * 4, none⟩ = some (.int .i64 L[i].k) ∧ w.cell? ⟨b, o + i * 4 + 1, none⟩ = some (.int .i64 L[i].a) ∧ w.cell? ⟨b, o + i * 4 + 2, none⟩ = some (.int .i64 L[i].b) ∧ w.cell? ⟨b, o + i * 4 + 3, none⟩ = some (.string L[i].d)
theorem Sys.keep {w w' : World} {a : Option Addr} {L : List Sy} (h : Sys w a L) (k : Keep (fun _ => False) w w') : Sys w' a L := by
  refine ⟨h.num, h.row.imp id ?_⟩
  rintro ⟨b, o, rfl, hc⟩
  refine ⟨b, o, rfl, fun i hi => ?_⟩
  have e : ∀ j u, w.cell? ⟨b, j, none⟩ = some u → w'.cell? ⟨b, j, none⟩ = some u := fun j u hu => by
    rw [← hu]
    exact World.cell?_of_block (w := w) (a := ⟨b, j, none⟩) (k.block b (World.block_lt_of_cell? w _ hu) (fun e => e))
  obtain ⟨h0, h1, h2, h3⟩ := hc i hi
  exact ⟨e _ _ h0, e _ _ h1, e _ _ h2, e _ _ h3⟩
theorem Sy.fit {x : Sy} (h : I64 x.a ∧ I64 x.b ∧ x.d.size ≤ 1048576) : Cm.Fit x.cm := by
  have h1 := cof_num x.k x.a x.b x.d (lo := -9223372036854775808) (hi := 9223372036854775807) (by decide) (by decide) h.1 h.2.1
  have h2 := cof_byte x.k x.a x.b x.d
  exact ⟨(cof_pl _ _ _ _).kind, h1.1, h1.2, h2.1, by have := h2.2; have := h.2.2; show (cof x.k x.a x.b x.d).d.length ≤ _; omega⟩
/-- One that passes the statement's own bounds. -/
def Sy.In (x : Sy) : Prop := x.d.size ≤ 20000 ∧ (-999999999 ≤ x.a ∧ x.a ≤ 999999999) ∧ (-999999999 ≤ x.b ∧ x.b ≤ 999999999)
theorem Sy.ok {x : Sy} (h : x.In) : x.cm.Ok ∧ x.cm.d.length ≤ 20000 := by
  have h1 := cof_num x.k x.a x.b x.d (lo := -999999999) (hi := 999999999) (by decide) (by decide) h.2.1 h.2.2
  have h2 := cof_byte x.k x.a x.b x.d
  have h3 := cof_pl x.k x.a x.b x.d
  exact ⟨⟨h3.kind, h1.1.1, h1.1.2, h1.2.1, h1.2.2, h2.1, h3.nob, h3.noa, h3.nod⟩, by have := h2.2; have := h.1; show (cof x.k x.a x.b x.d).d.length ≤ _; omega⟩
theorem Sy.ofany (x : Sy) (w : World) : Calls Tryd.prog 12 #[cv x.cm] w fun e w' => e = .returned (.tuple #[.agg #[.int .u8 (x.cm.k : Nat), .int .i64 x.cm.a, .int .i64 x.cm.b, .string (str x.cm.d)], .bool true]) ∧ Keep (fun _ => False) w w' := of_any (cof_pl _ _ _ _) w
/-- What the first loop leaves. -/
structure B1 (w1 wr : World) (L : List Sy) (i : Nat) (a : Option Addr) (cap : Nat) : Prop where
  row : Gw 36 1 w1 wr a i cap (cvs ((L.take i).map Sy.cm))
  ins : ∀ x ∈ L.take i, x.In
  few : i = 0 ∨ L.length ≤ 900
  le : i ≤ L.length
theorem cms_len {L : List Sy} {i : Nat} (h : i ≤ L.length) : ((L.take i).map Sy.cm).length = i := by simp; omega
theorem prt_bd {L : List Sy} {i : Nat} (h : ∀ x ∈ L.take i, x.In) (hi : i ≤ 900) (hL : ∀ x ∈ L, I64 x.a ∧ I64 x.b ∧ x.d.size ≤ 1048576) : (prt ((L.take i).map Sy.cm)).length ≤ 90000000 := by
  have h1 := prt_len 20000 ((L.take i).map Sy.cm) (fun c hc => by
    obtain ⟨x, hx, rfl⟩ := List.mem_map.1 hc
    exact ⟨Sy.fit (hL x (List.mem_of_mem_take hx)), (Sy.ok (h x hx)).2⟩)
  have h2 : ((L.take i).map Sy.cm).length ≤ 900 := by simp; omega
  have h3 : ((L.take i).map Sy.cm).length * (4 * 20000 + 61) ≤ 900 * (4 * 20000 + 61) := Nat.mul_le_mul_right _ h2
  omega
theorem take_cms {L : List Sy} {i : Nat} (h : i < L.length) : (L.take (i + 1)).map Sy.cm = (L.take i).map Sy.cm ++ [L[i].cm] := by
  rw [List.take_succ_eq_append_getElem h, List.map_append]; rfl

set_option maxHeartbeats 4000000 in
set_option maxRecDepth 100000 in
/-- ScriptBack. -/
theorem back_law (L : List Sy) (a : Option Addr) (cap : Nat) (gap : ByteArray) (w : World) (hG : Gt w) (hS : Sys w a L) (hL : L.length ≤ 1048576) (hg : gap.size ≤ 1048576) :
    Calls Tryd.prog 6 #[.slice a L.length cap, .string gap] w fun e w' => e = .returned (.bool true) ∧ Keep (fun _ => False) w w' := by
  have ha := awake_any w hG
  have HG : Hid (Gt w) := hG
  have HS : Hid (Sys w a L) := hS
  have HL : Hid (L.length ≤ 1048576 ∧ gap.size ≤ 1048576) := ⟨hL, hg⟩
  clear hG hS hL hg
  go_enter Tryd.func6, Tryd.ntmps6
  go_wp2_with fail
  refine ha.mono ?_
  rintro e w1 ⟨rfl, k1⟩
  have K1 : Hid (Keep (fun _ => False) w w1) := k1
  clear ha k1
  go_wp2_with fail
  go_loopw [5, 6, 7] (fun x y z wr => ∃ (i : Nat) (ac : Option Addr) (cc : Nat), x = .slice ac i cc ∧ y = .string (str (prt ((L.take i).map Sy.cm))) ∧ z = .int .i64 (i : Nat) ∧ B1 w1 wr L i ac cc) (fun _ _ z _ => L.length - (intOf z).toNat)
  case atStart => exact ⟨0, none, 0, rfl, rfl, rfl, ⟨Gw.nil _ _ (Keep.refl _ _), by simp, Or.inl rfl, by omega⟩⟩
  case round =>
    obtain ⟨i, ac, cc, rfl, rfl, rfl, hB⟩ := hrel
    have KW : Hid (Keep (fun _ => False) w wr) := K1.out.trans hB.row.keep
    by_cases hlt : i < L.length
    · obtain ⟨b, o, rfl, hcells⟩ : ∃ b o, a = some ⟨b, o, none⟩ ∧ ∀ i (h : i < L.length), wr.cell? ⟨b, o + i * 4, none⟩ = some (.int .i64 L[i].k) ∧ wr.cell? ⟨b, o + i * 4 + 1, none⟩ = some (.int .i64 L[i].a) ∧ wr.cell? ⟨b, o + i * 4 + 2, none⟩ = some (.int .i64 L[i].b) ∧ wr.cell? ⟨b, o + i * 4 + 3, none⟩ = some (.string L[i].d) := by
        rcases (HS.out.keep KW.out).row with h | h
        · rw [h] at hlt; simp at hlt
        · exact h
      obtain ⟨q0, q1, q2, q3⟩ := hcells i hlt
      have hnum := HS.out.num L[i] (List.getElem_mem hlt)
      have hcm := comm_any L[i].k L[i].a L[i].b L[i].d wr
      have hi9 : i ≤ 900 := by rcases hB.few with h | h <;> omega
      have hfit := Sy.fit hnum
      have hof := fun W => Sy.ofany L[i] W
      have hrt := fun W => rtext_any hfit W
      have hsz1 : (str (prt ((L.take i).map Sy.cm))).size ≤ 90000000 := by rw [str_size]; exact prt_bd hB.ins hi9 HS.out.num
      have hsz2 : (str (txt L[i].cm)).size ≤ 5000000 := by
        rw [str_size]
        have h1 := txt_len hfit.a hfit.b
        have h2 := (cof_byte L[i].k L[i].a L[i].b L[i].d).2
        have h3 : L[i].cm.d.length ≤ L[i].d.size := h2
        have := hnum.2.2
        omega
      have HPR : Hid (str (prt ((L.take i).map Sy.cm)) ++ str (txt L[i].cm) ++ (⟨#[10]⟩ : ByteArray) = str (prt ((L.take (i + 1)).map Sy.cm))) := by
        show _ = _
        rw [take_cms hlt, prt_snoc, show (⟨#[10]⟩ : ByteArray) = str [10] from rfl, str_append, str_append]
      have HB : Hid (B1 w1 wr L i ac cc) := hB
      have HIN : Hid (L[i].d.size ≤ 20000 → (-999999999 ≤ L[i].a ∧ L[i].a ≤ 999999999) → (-999999999 ≤ L[i].b ∧ L[i].b ≤ 999999999) → L[i].In) := fun h1 h2 h3 => ⟨h1, h2, h3⟩
      have HTK : Hid (L.take (i + 1) = L.take i ++ [L[i]]) := List.take_succ_eq_append_getElem hlt
      have HMP : Hid (∀ M : List Cm, cvs M ++ [cv L[i].cm] = cvs (M ++ [L[i].cm])) := fun M => cvs_app M _
      have HTC : Hid ((L.take (i + 1)).map Sy.cm = (L.take i).map Sy.cm ++ [L[i].cm]) := take_cms hlt
      have HLT : Hid (i < L.length ∧ L.length ≤ 1048576) := ⟨hlt, HL.out.1⟩
      have j1 : (i : Int) < L.length := by omega
      have j2 : IntKind.i64.wrap ((i : Int) + 1) = (i : Int) + 1 := by rw [IntKind.wrap_i64]; omega
      have hcvv : cv L[i].cm = .iface (cty L[i].cm.k) (cag L[i].cm) := rfl
      have hcm' : Calls Tryd.prog 16 #[.agg #[.int .i64 L[i].k, .int .i64 L[i].a, .int .i64 L[i].b, .string L[i].d]] wr fun e w' => e = .returned (cv L[i].cm) ∧ Keep (fun _ => False) wr w' := hcm
      have HGC : Hid (∀ w2, Keep (fun _ => False) wr w2 → ∃ a' cap' w', (Builtin.append_ #[23, 23] 23 #[.slice ac i cc, .slice (some ⟨w2.heap.size, 0, none⟩) 1 1]).run Tryd.prog (w2.alloc (.cells #[cv L[i].cm] 36)) = .ok (.slice a' (i + 1) cap') w' ∧ Gw 36 1 w1 w' a' (i + 1) cap' (cvs ((L.take i).map Sy.cm) ++ [cv L[i].cm])) := fun w2 k2 =>
        (HB.out.row.more k2).app1 (t := 23) Tryd.underlying23 info36 rfl (by decide) (by decide) (by omega) [cv L[i].cm] rfl (by intro u hu; simp at hu; subst hu; exact cv_one _)
      have HAT : Hid (∀ (w2 : World) (a' : Option Addr) (cap' : Nat), Gw 36 1 w1 w2 a' (i + 1) cap' (cvs ((L.take i).map Sy.cm) ++ [cv L[i].cm]) → ∃ g, a' = some ⟨g, 0, none⟩ ∧ w2.cell? ⟨g, i, none⟩ = some (cv L[i].cm)) := fun w2 a' cap' h => by
        obtain ⟨g, h1, h2⟩ := h.at (by omega)
        refine ⟨g, h1, h2 w2 (Keep.refl _ _) i _ ?_⟩
        have hl : (cvs ((L.take i).map Sy.cm)).length = i := by simp [cvs]; omega
        rw [List.getElem?_append_right (by omega), hl, Nat.sub_self]
        rfl
      have HCE : Hid (∀ W, Keep (fun _ => False) w1 W → W.cell? ⟨b, o + i * 4 + 1, none⟩ = some (.int .i64 L[i].a) ∧ W.cell? ⟨b, o + i * 4 + 2, none⟩ = some (.int .i64 L[i].b) ∧ W.cell? ⟨b, o + i * 4 + 3, none⟩ = some (.string L[i].d)) := fun W k => by
        have hs := (HS.out.keep (K1.out.trans k)).row
        rcases hs with h | ⟨b', o', h1, h2⟩
        · rw [h] at hlt; simp at hlt
        · injection h1 with h1
          injection h1 with h1 h3
          subst h1 h3
          obtain ⟨_, r1, r2, r3⟩ := h2 i hlt
          exact ⟨r1, r2, r3⟩
      have HNU : Hid (I64 L[i].a ∧ I64 L[i].b ∧ L[i].d.size ≤ 1048576) := hnum
      rw [hcvv] at hcm' hof
      simp only [hcvv] at HGC HAT HMP
      clear hcm hcells hfit hB hnum hcvv hi9
      generalize cty L[i].cm.k = TY at *
      generalize cag L[i].cm = AG at *
      generalize hTX : str (txt L[i].cm) = TX at *
      generalize hPX : str (prt ((L.take i).map Sy.cm)) = PX at *
      clear hTX hPX
      generalize str L[i].cm.d = CD at *
      generalize L[i].cm.a = CA at *
      generalize L[i].cm.b = CB at *
      generalize L[i].cm.k = CK at *
      generalize L[i].k = kd at *
      generalize hxa : L[i].a = xa at *
      generalize hxb : L[i].b = xb at *
      generalize hxd : L[i].d = xd at *
      clear hxa hxb hxd
      go_wp2_with fail
      refine hcm'.mono ?_
      rintro e w2 ⟨rfl, k2⟩
      obtain ⟨a3, cap3, w3, hrun, hw3⟩ := HGC.out w2 k2
      obtain ⟨g3, rfl, hg3⟩ := HAT.out w3 a3 cap3 hw3
      have W3 : Hid (Gw 36 1 w1 w3 (some ⟨g3, 0, none⟩) (i + 1) cap3 (cvs ((L.take i).map Sy.cm) ++ [.iface TY AG])) := hw3
      clear hw3 hcm' q0 q1 q2 q3
      have j3 : ¬ 9223372036854775807 < PX.size + TX.size := by omega
      have j4 : ¬ 9223372036854775807 < PX.size + TX.size + 1 := by omega
      have hle : (i : Int) < (i : Int) + 1 := by omega
      go_wp2_with (at_builtin; refine wpList_app rfl (.tmp 34) (.tmp 40) 23 23 rfl (by rfl) (by rfl) hrun ?_)
      refine (hof _).mono ?_
      rintro e w4 ⟨rfl, k4⟩
      go_wp2_with fail
      refine (hrt _).mono ?_
      rintro e w5 ⟨rfl, k5⟩
      have K35 : Keep (fun _ => False) w3 w5 := (k4.alloc _).trans k5
      have KR : Keep (fun _ => False) w1 w5 := W3.out.keep.trans K35
      obtain ⟨r1, r2, r3⟩ := HCE.out w5 KR
      have KF : Hid (Keep (fun _ => False) w w5) := K1.out.trans KR
      have HRW : Hid (Gw 36 1 w1 w5 (some ⟨g3, 0, none⟩) (i + 1) cap3 (cvs ((L.take i).map Sy.cm) ++ [.iface TY AG])) := W3.out.more K35
      clear hof hrt k4 k5 k2 hrun hg3 KR K35 W3
      by_cases p1 : (20000 : Int) < xd.size
      · clear hsz1 hsz2
        go_wp2_with fail
        go_ret
        exact ⟨rfl, KF.out⟩
      by_cases p2 : (900 : Int) < L.length
      · clear hsz1 hsz2
        go_wp2_with fail
        go_ret
        exact ⟨rfl, KF.out⟩
      by_cases p3 : xa < -999999999
      · clear hsz1 hsz2
        go_wp2_with fail
        go_ret
        exact ⟨rfl, KF.out⟩
      by_cases p4 : (999999999 : Int) < xa
      · clear hsz1 hsz2
        go_wp2_with fail
        go_ret
        exact ⟨rfl, KF.out⟩
      by_cases p5 : xb < -999999999
      · clear hsz1 hsz2
        go_wp2_with fail
        go_ret
        exact ⟨rfl, KF.out⟩
      by_cases p6 : (999999999 : Int) < xb
      · clear hsz1 hsz2
        go_wp2_with fail
        go_ret
        exact ⟨rfl, KF.out⟩
      have HEND : Hid (B1 w1 w5 L (i + 1) (some ⟨g3, 0, none⟩) cap3) := by
        refine ⟨?_, ?_, Or.inr (by omega), by have := HLT.out.1; omega⟩
        · have := HRW.out
          rw [HMP.out, ← HTC.out] at this
          exact this
        · intro x hx
          rw [HTK.out] at hx
          rcases List.mem_append.1 hx with hx | hx
          · exact HB.out.ins x hx
          · simp at hx
            subst hx
            exact HIN.out (by omega) (by omega) (by omega)
      clear hsz1 hsz2
      go_wp2_with fail
      go_roundw
      case rel => exact ⟨i + 1, _, _, rfl, by rw [← HPR.out], by rw [Int.natCast_add]; rfl, HEND.out⟩
      case measure => have := HLT.out.1; simp [intOf]; omega
    · obtain rfl : i = L.length := by have := hB.le; omega
      have hfew : L.length ≤ 900 := by rcases hB.few with h | h <;> omega
      rw [List.take_length]
      have hins := hB.ins
      have hrow := hB.row
      rw [List.take_length] at hins hrow
      have hok : ∀ c ∈ L.map Sy.cm, c.Ok := fun c hc => by
        obtain ⟨x, hx, rfl⟩ := List.mem_map.1 hc
        exact (Sy.ok (hins x hx)).1
      have hfit : ∀ c ∈ L.map Sy.cm, Cm.Fit c := fun c hc => by
        obtain ⟨x, hx, rfl⟩ := List.mem_map.1 hc
        exact Sy.fit (HS.out.num x hx)
      have hbd : (prt (L.map Sy.cm)).length ≤ 90000000 := by
        have := prt_bd (L := L) (i := L.length) (by rw [List.take_length]; exact hins) hfew HS.out.num
        rwa [List.take_length] at this
      have hlen : (L.map Sy.cm).length = L.length := List.length_map _
      generalize L.map Sy.cm = M at *
      rw [← hlen] at hrow
      have hpr := print_any M hfit (by omega) (by omega) ac cc wr (HG.out.keep KW.out) hrow.rd
      rw [hlen] at hpr hrow
      have HM : Hid ((∀ c ∈ M, c.Ok) ∧ M.length = L.length ∧ L.length ≤ 900) := ⟨hok, hlen, hfew⟩
      have HRW : Hid (Gw 36 1 w1 wr ac L.length cc (cvs M)) := hrow
      have hsp : (str (prt M)).size = (prt M).length := str_size _
      have j1 : ¬ (L.length : Int) < L.length := by omega
      clear hok hfit hins hrow hB hlt hlen hfew HS
      by_cases p1 : 7000 < (prt M).length
      · have i1 : (7000 : Int) < (str (prt M)).size := by omega
        generalize str (prt M) = T at *
        clear hsp hbd p1
        go_wp2_with fail
        refine hpr.mono ?_
        rintro e w2 ⟨rfl, k2⟩
        go_wp2_with fail
        go_ret
        exact ⟨rfl, KW.out.trans k2⟩
      have i1 : ¬ (7000 : Int) < (str (prt M)).size := by omega
      by_cases p2 : 100 < gap.size
      · have i2 : (100 : Int) < gap.size := by omega
        generalize str (prt M) = T at *
        clear hsp hbd p1 p2
        go_wp2_with fail
        refine hpr.mono ?_
        rintro e w2 ⟨rfl, k2⟩
        go_wp2_with fail
        go_ret
        exact ⟨rfl, KW.out.trans k2⟩
      have i2 : ¬ (100 : Int) < gap.size := by omega
      have HP : Hid ((prt M).length ≤ 7000 ∧ gap.size ≤ 100) := ⟨by omega, by omega⟩
      have HPB : Hid (bs (str (prt M)) = prt M ∧ (str (prt M)).size ≤ 7000) := ⟨bs_str (prt_byte M), by omega⟩
      generalize hT : str (prt M) = T at *
      have HTT : Hid (str (prt M) = T) := hT
      clear hT hsp hbd p1 p2
      go_wp2_with fail
      refine hpr.mono ?_
      rintro e w2 ⟨rfl, k2⟩
      have K2 : Hid (Keep (fun _ => False) w w2) := KW.out.trans k2
      have RW2 : Hid (Gw 36 1 w1 w2 ac L.length cc (cvs M)) := HRW.out.more k2
      clear hpr k2 HRW KW
      go_wp2_with fail
      go_loopw [11, 12] (fun x y wx => ∃ k : Nat, x = .string (str (((bs gap).take k).filter (fun c => c != 10))) ∧ y = .int .i64 (k : Nat) ∧ k ≤ gap.size ∧ wx = w2) (fun _ y _ => gap.size - (intOf y).toNat)
      case atStart => exact ⟨0, rfl, rfl, by omega, by first | rfl | trivial⟩
      case round =>
        obtain ⟨k, rfl, rfl, hk, rfl⟩ := hrel
        by_cases hkl : k < gap.size
        · have hcons := bs_cons gap hkl
          have q1 : (k : Int) < gap.size := by omega
          have q2 : IntKind.i64.wrap ((k : Int) + 1) = (k : Int) + 1 := by have := HP.out.2; rw [IntKind.wrap_i64]; omega
          have htk : (bs gap).take (k + 1) = (bs gap).take k ++ [(gap[k]'hkl).toNat] := by
            rw [List.take_add, hcons]; rfl
          by_cases h10 : (gap[k]'hkl).toNat = 10
          · have q3 : ((gap[k]'hkl).toNat : Int) = 10 := by omega
            have HF : Hid (((bs gap).take (k + 1)).filter (fun c => c != 10) = ((bs gap).take k).filter (fun c => c != 10)) := by
              show _ = _
              rw [htk, List.filter_append, h10]
              simp
            clear hcons htk h10
            generalize hGG : str (((bs gap).take k).filter (fun c => c != 10)) = GG at *
            have HGG : Hid (str (((bs gap).take k).filter (fun c => c != 10)) = GG) := hGG
            clear hGG
            go_wp2_with fail
            go_roundw
            case rel => exact ⟨k + 1, by rw [HF.out, HGG.out], by rw [Int.natCast_add]; rfl, by omega, by first | rfl | trivial⟩
            case measure => simp [intOf]; omega
          · have q3 : ¬ ((gap[k]'hkl).toNat : Int) = 10 := by omega
            have q4 : (((gap[k]'hkl).toNat : Int) == 10) = false := by rw [beq_eq_false_iff_ne]; exact q3
            have hex : gap.extract k (k + 1) = str [(gap[k]'hkl).toNat] := by
              rw [extract_cur gap (by omega : k ≤ k + 1)]
              unfold cur
              rw [hcons, show k + 1 - k = 1 by omega]
              rfl
            have HF : Hid (str (((bs gap).take k).filter (fun c => c != 10)) ++ gap.extract k (k + 1) = str (((bs gap).take (k + 1)).filter (fun c => c != 10))) := by
              show _ = _
              rw [htk, List.filter_append, hex, str_append]
              simp [h10]
            have hz : (str (((bs gap).take k).filter (fun c => c != 10))).size ≤ 100 := by
              rw [str_size]
              have h1 := List.length_filter_le (fun c => c != 10) ((bs gap).take k)
              rw [List.length_take, bs_len] at h1
              have := HP.out.2
              omega
            have q5 : (k : Int) ≤ (k : Int) + 1 := by omega
            have q6 : (k : Int) + 1 ≤ gap.size := by omega
            have q7 : (0 : Int) ≤ (k : Int) + 1 := by omega
            have hes : (gap.extract k (k + 1)).size = 1 := by rw [hex, str_size]; rfl
            generalize hGG : str (((bs gap).take k).filter (fun c => c != 10)) = GG at *
            have q8 : ¬ 9223372036854775807 < GG.size + 1 := by omega
            have q9 : ¬ 9223372036854775807 < GG.size + (gap.extract k (k + 1)).size := by omega
            have qa : ¬ 9223372036854775807 < GG.size + (min (k + 1) gap.size - k) := by omega
            clear hGG hcons htk h10 hex hes
            go_wp2_with fail
            go_roundw
            case rel => exact ⟨k + 1, by rw [← HF.out], by rw [Int.natCast_add]; rfl, by omega, by first | rfl | trivial⟩
            case measure => simp [intOf]; omega
        · obtain rfl : k = gap.size := by omega
          have q1 : ¬ (gap.size : Int) < gap.size := by omega
          rw [List.take_of_length_le (by rw [bs_len]; omega)]
          have hGl : ((bs gap).filter (fun c => c != 10)).length ≤ 100 := by
            have h1 := List.length_filter_le (fun c => c != 10) (bs gap)
            rw [bs_len] at h1
            have := HP.out.2
            omega
          have hG10 : ∀ x ∈ (bs gap).filter (fun c => c != 10), x ≠ 10 := fun x hx => by
            have := (List.mem_filter.1 hx).2
            simpa using this
          have hGb : ∀ x ∈ (bs gap).filter (fun c => c != 10), x < 256 := fun x hx => bs_byte gap x (List.mem_filter.1 hx).1
          generalize (bs gap).filter (fun c => c != 10) = G at *
          have hp1 := parse_back HM.out.1 HP.out.1 (by have := HM.out.2; omega)
          have hp2 := parse_gap HM.out.1 HP.out.1 (by have := HM.out.2; omega) hG10 hGl
          have c1 := fun W hW => sparse_any T W hW
          rw [HPB.out.1, hp1] at c1
          simp only [HM.out.2.1] at c1
          have hst : (⟨#[35, 32]⟩ : ByteArray) ++ str G ++ (⟨#[10, 9, 32, 10]⟩ : ByteArray) ++ T ++ (⟨#[32, 32, 35, 32]⟩ : ByteArray) ++ str G = str ([35, 32] ++ G ++ [10, 9, 32, 10] ++ prt M ++ [32, 32, 35, 32] ++ G) := by
            rw [← HTT.out, show (⟨#[35, 32]⟩ : ByteArray) = str [35, 32] from rfl, show (⟨#[10, 9, 32, 10]⟩ : ByteArray) = str [10, 9, 32, 10] from rfl, show (⟨#[32, 32, 35, 32]⟩ : ByteArray) = str [32, 32, 35, 32] from rfl, str_append, str_append, str_append, str_append, str_append]
          have hbs2 : bs (str ([35, 32] ++ G ++ [10, 9, 32, 10] ++ prt M ++ [32, 32, 35, 32] ++ G)) = [35, 32] ++ G ++ [10, 9, 32, 10] ++ prt M ++ [32, 32, 35, 32] ++ G := bs_str (by
            intro x hx
            simp only [List.mem_append] at hx
            rcases hx with ((((h | h) | h) | h) | h) | h
            · simp at h; omega
            · exact hGb x h
            · simp at h; omega
            · exact prt_byte M x h
            · simp at h; omega
            · exact hGb x h)
          have c2 := fun W hW => sparse_any ((⟨#[35, 32]⟩ : ByteArray) ++ str G ++ (⟨#[10, 9, 32, 10]⟩ : ByteArray) ++ T ++ (⟨#[32, 32, 35, 32]⟩ : ByteArray) ++ str G) W hW
          rw [hst, hbs2, hp2, ← hst] at c2
          simp only [HM.out.2.1] at c2
          have hgs : (str G).size ≤ 100 := by rw [str_size]; exact hGl
          have hts := HPB.out.2
          generalize str G = GG at *
          have s1 : ¬ 9223372036854775807 < 2 + GG.size := by omega
          have s2 : ¬ 9223372036854775807 < 2 + GG.size + 4 := by omega
          have s3 : ¬ 9223372036854775807 < 2 + GG.size + 4 + T.size := by omega
          have s4 : ¬ 9223372036854775807 < 2 + GG.size + 4 + T.size + 4 := by omega
          have s5 : ¬ 9223372036854775807 < 2 + GG.size + 4 + T.size + 4 + GG.size := by omega
          clear hp1 hp2 hst hbs2 hgs hts hGl hG10 hGb hk hkl
          go_wp2_with fail
          refine (c1 _ (HG.out.keep K2.out).1).mono ?_
          rintro e w3 ⟨a3, cc3, rfl, g3⟩
          have k3 := K2.out.trans g3.keep
          go_wp2_with fail
          refine (c2 _ (HG.out.keep k3).1).mono ?_
          rintro e w4 ⟨a4, cc4, rfl, g4⟩
          have KF : Hid (Keep (fun _ => False) w w4) := k3.trans g4.keep
          have G3 := g3.more g4.keep
          have G2 := (RW2.out.more g3.keep).more g4.keep
          have HC : Hid (∀ W, Keep (fun _ => False) w4 W → Rd W ac (cvs M) ∧ Rd W a3 (cvs M) ∧ Rd W a4 (cvs M)) := fun W k => ⟨G2.rd.keep k, G3.rd.keep k, g4.rd.keep k⟩
          clear c1 c2 g3 g4 G2 G3 k3 RW2 K2 s1 s2 s3 s4 s5
          go_wp2_with fail
          go_loopw [19] (fun y wx => ∃ n : Nat, y = .int .i64 (n : Nat) ∧ n ≤ L.length ∧ Keep (fun _ => False) w4 wx) (fun y _ => L.length - (intOf y).toNat)
          case atStart => exact ⟨0, rfl, by omega, Keep.refl _ _⟩
          case round =>
            obtain ⟨n, rfl, hn, hkw⟩ := hrel
            by_cases hnl : n < L.length
            · have hnM : n < M.length := by have := HM.out.2.1; omega
              have hLl := HM.out.2.2
              have hpl := Tg.Cm.Ok.pl (HM.out.1 M[n] (List.getElem_mem hnM))
              have hof := fun W => of_any hpl W
              have hget : ∀ {x : Option Addr} {W : World}, Rd W x (cvs M) → ∃ b o, x = some ⟨b, o, none⟩ ∧ ∀ V, Keep (fun _ => False) W V → V.cell? ⟨b, o + n, none⟩ = some (cv M[n]) := fun {x} {W} h => by
                rcases h with h | ⟨b, o, h1, h2⟩
                · have := congrArg List.length h
                  simp only [cvs, List.length_map, List.length_nil] at this; omega
                · refine ⟨b, o, h1, fun V k => ?_⟩
                  have := h2 n _ (show (cvs M)[n]? = some (cv M[n]) by simp [cvs, hnM])
                  rw [← this]
                  exact World.cell?_of_block (w := W) (a := ⟨b, o + n, none⟩) (k.block b (World.block_lt_of_cell? W _ this) (fun e => e))
              obtain ⟨z1, z2, z3⟩ := HC.out wr hkw
              obtain ⟨b1, o1, rfl, hz1⟩ := hget z1
              obtain ⟨b2, o2, rfl, hz2⟩ := hget z2
              obtain ⟨b3, o3, rfl, hz3⟩ := hget z3
              have hcvv : cv M[n] = .iface (cty M[n].k) (cag M[n]) := rfl
              rw [hcvv] at hof hz1 hz2 hz3
              have m1 : (n : Int) < L.length := by omega
              have m2 : IntKind.i64.wrap ((n : Int) + 1) = (n : Int) + 1 := by rw [IntKind.wrap_i64]; omega
              have HZ1 : Hid (∀ V, Keep (fun _ => False) wr V → V.cell? ⟨b1, o1 + n, none⟩ = some (.iface (cty M[n].k) (cag M[n]))) := hz1
              have HZ3 : Hid (∀ V, Keep (fun _ => False) wr V → V.cell? ⟨b3, o3 + n, none⟩ = some (.iface (cty M[n].k) (cag M[n]))) := hz3
              have v2 := hz2 wr (Keep.refl _ _)
              clear hz1 hz2 hz3 z1 z2 z3 hget hcvv hpl
              generalize cty M[n].k = TY at *
              generalize cag M[n] = AG at *
              generalize str M[n].d = CD at *
              generalize M[n].a = CA at *
              generalize M[n].b = CB at *
              generalize M[n].k = CK at *
              go_wp2_with fail
              refine (hof _).mono ?_
              rintro e w5 ⟨rfl, k5⟩
              have v1 := HZ1.out (w5.alloc (.cells #[.int .u8 (CK : Nat), .int .i64 CA, .int .i64 CB, .string CD] 32)) (k5.alloc _)
              clear v2
              go_wp2_with fail
              refine (hof _).mono ?_
              rintro e w6 ⟨rfl, k6⟩
              have v3 := HZ3.out (w6.alloc (.cells #[.int .u8 (CK : Nat), .int .i64 CA, .int .i64 CB, .string CD] 32)) (((k5.alloc _).trans k6).alloc _)
              clear v1
              go_wp2_with fail
              refine (hof _).mono ?_
              rintro e w7 ⟨rfl, k7⟩
              clear v3 hof
              obtain ⟨x0, x1, x2, x3⟩ := rtext_cells w5 (CK : Nat) CA CB CD (w7.alloc (.cells #[.int .u8 (CK : Nat), .int .i64 CA, .int .i64 CB, .string CD] 32)) (((k6.alloc _).trans k7).alloc _)
              obtain ⟨y0, y1, y2, y3⟩ := rtext_cells w6 (CK : Nat) CA CB CD (w7.alloc (.cells #[.int .u8 (CK : Nat), .int .i64 CA, .int .i64 CB, .string CD] 32)) (k7.alloc _)
              have KN2 : Hid (Keep (fun _ => False) w4 (w7.alloc (.cells #[.int .u8 (CK : Nat), .int .i64 CA, .int .i64 CB, .string CD] 32))) := (((((hkw.trans k5).alloc _).trans k6).alloc _).trans k7).alloc _
              clear hkw k5 k6 k7
              go_wp2_with fail
              go_roundw
              case rel => exact ⟨n + 1, by rw [Int.natCast_add]; rfl, by omega, KN2.out⟩
              case measure => simp [intOf]; omega
            · obtain rfl : n = L.length := by omega
              have m1 : ¬ (L.length : Int) < L.length := by omega
              have KW4 : Hid (Keep (fun _ => False) w4 wr) := hkw
              clear hkw hn hnl
              go_wp2_with fail
              go_ret
              exact ⟨rfl, KF.out.trans KW4.out⟩
end Tg
end Go.Proofs.YtgilagmgepogbaaDoor
