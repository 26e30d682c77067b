/-
  The script's lines: lastText, ranged, counted, command over any memory, for texts of any bytes.
-/
import Derived.Test.YtgilagmgepogbaaDoorSb
import Derived.Test.YtgilagmgepogbaaDoorRead
set_option linter.unusedVariables false
namespace Go.Proofs.YtgilagmgepogbaaDoor
open Go.ChangeShapes Go.WideShapes Go.ChangeAt Go.RowKit
namespace Tg
open Qm Km

/-- A command as a value. -/
def cty (k : Nat) : TypeId := if k = 114 then 54 else if k = 119 then 51 else if k = 116 then 55 else if k = 99 then 57 else if k = 102 then 58 else if k = 109 then 59 else if k = 115 then 61 else 62
def cag (c : Cm) : Value := if c.k = 119 then .agg #[.int .i64 c.a, .int .i64 c.b, .string (str c.d)] else if c.k = 114 then .agg #[.int .i64 c.a, .int .i64 c.b] else if c.k = 116 then .agg #[.int .i64 c.a, .int .i64 c.b] else if c.k = 115 then .agg #[] else if c.k = 105 then .agg #[] else .agg #[.int .i64 c.a]
def cv (c : Cm) : Value := .iface (cty c.k) (cag c)
/-- What a line's reading answers. -/
def Says (o : Option Cm) (e : Ending) : Prop := ∃ v, e = .returned (.tuple #[v, .bool o.isSome]) ∧ ∀ c, o = some c → v = cv c
theorem Says.none (v : Value) : Says Option.none (.returned (.tuple #[v, .bool false])) := ⟨v, rfl, fun c h => by cases h⟩
theorem Says.some (c : Cm) : Says (Option.some c) (.returned (.tuple #[cv c, .bool true])) := ⟨_, rfl, fun d h => by cases h; rfl⟩
theorem rst_str (s : ByteArray) : bs (str (rst (bs s))) = rst (bs s) := bs_str fun x hx => bs_byte s x (rst_mem hx)
theorem wrd_str (s : ByteArray) : bs (str (wrd (bs s))) = wrd (bs s) := bs_str fun x hx => bs_byte s x (wrd_mem hx)

set_option maxRecDepth 100000 in
/-- lastText. -/
theorem last_any (s : ByteArray) (hs : s.size ≤ 1000000000000) (w : World) (hG : Gl w) : Calls Tryd.prog 42 #[.string s] w fun e w' =>
    ((∃ x n, Qm.read (skp (bs s)) = some (x, n) ∧ e = .returned (.tuple #[.string (str x), .bool (ends ((skp (bs s)).drop n))])) ∨ (Qm.read (skp (bs s)) = none ∧ e = .returned (.tuple #[.string ⟨#[]⟩, .bool false]))) ∧ Keep (fun _ => False) w w' := by
  have hsk := skip_any s w
  have hl := skp_len (bs s)
  rw [bs_len] at hl
  have hsz : (str (skp (bs s))).size = (skp (bs s)).length := str_size _
  have hb := skp_str s
  have HG : Hid (Gl w) := hG
  clear hG
  generalize skp (bs s) = D at *
  generalize str D = t at *
  subst hb
  go_enter Tryd.func42, Tryd.ntmps42
  go_wp2_with fail
  refine hsk.mono ?_
  rintro e w1 ⟨rfl, k1⟩
  clear hsk
  have hr := read_any t (by omega) w1 (HG.out.keep k1)
  go_wp2_with fail
  refine hr.mono ?_
  rintro e w2 ⟨h, k2⟩
  clear hr
  rcases h with ⟨x, n, h, rfl⟩ | ⟨h, rfl⟩
  · obtain ⟨hn, ht⟩ := read_some h
    have hle : n ≤ t.size := by
      have := congrArg List.length ht
      rw [List.length_append, bs_len, List.length_drop, bs_len] at this
      omega
    have he := fun W => ends_any (t.extract n t.size) W
    rw [bs_drop] at he
    have H : Hid (Qm.read (bs t) = some (x, n)) := h
    have i1 : (n : Int) ≤ t.size := by omega
    clear h hn ht hsz hl hle hs
    generalize hE : ends ((bs t).drop n) = E at *
    go_wp2_with fail
    refine (he _).mono ?_
    rintro e w3 ⟨rfl, k3⟩
    go_wp2_with fail
    go_ret2
    exact ⟨Or.inl ⟨x, n, H.out, by rw [hE]; rfl⟩, (k1.trans k2).trans k3⟩
  · have H : Hid (Qm.read (bs t) = Option.none) := h
    clear h hsz hl hs
    go_wp2_with fail
    go_ret2
    exact ⟨Or.inr ⟨H.out, rfl⟩, k1.trans k2⟩

theorem two_none1 {r : List Nat} (h : num (wrd r) = none) : two r = none := by unfold two; rw [h]; rfl
theorem two_none2 {r : List Nat} {a : Int} (h : num (wrd r) = some a) (h2 : num (wrd (rst r)) = none) : two r = none := by unfold two; rw [h, h2]; rfl
theorem two_yes {r : List Nat} {a b : Int} (h : num (wrd r) = some a) (h2 : num (wrd (rst r)) = some b) : two r = some (a, b, rst (rst r)) := by unfold two; rw [h, h2]; rfl
theorem rng_none {k : Nat} {r : List Nat} (h : two r = none) : rng k r = none := by unfold rng; rw [h]; rfl
theorem wri_none {r : List Nat} (h : two r = none) : wri r = none := by unfold wri; rw [h]; rfl
theorem rng_yes {k : Nat} {r q : List Nat} {a b : Int} (h : two r = some (a, b, q)) : rng k r = if ends q then some ⟨k, a, b, []⟩ else none := by unfold rng; rw [h]; rfl
theorem wri_yes {r q : List Nat} {a b : Int} (h : two r = some (a, b, q)) : wri r = (Qm.read (skp q)).bind fun y => if ends ((skp q).drop y.2) then some ⟨119, a, b, y.1⟩ else none := by unfold wri; rw [h]; rfl
theorem Says.ite {b : Bool} {c : Cm} : Says (if b then Option.some c else Option.none) (.returned (.tuple #[cv c, .bool b])) := by
  cases b
  · exact Says.none _
  · exact Says.some _


set_option maxHeartbeats 1000000 in
set_option maxRecDepth 100000 in
/-- ranged, read. -/
theorem ranged_read (s : ByteArray) (hs : s.size ≤ 1000000000000) (w : World) (hG : Gl w) : Calls Tryd.prog 32 #[.string ⟨#[114, 101, 97, 100]⟩, .string s] w fun e w' => Says (rng 114 (bs s)) e ∧ Keep (fun _ => False) w w' := by
  have h1 := cutnum_any s w
  have h2 := fun W => cutnum_any (str (rst (bs s))) W
  rw [rst_str] at h2
  have HG : Hid (Gl w) := hG
  have e1 := @two_none1 (bs s)
  have e2 := @two_none2 (bs s)
  have e3 := @two_yes (bs s)
  have l1 := rst_len (bs s)
  have l2 := rst_len (rst (bs s))
  rw [bs_len] at l1
  have hq : bs (str (rst (rst (bs s)))) = rst (rst (bs s)) := bs_str fun x hx => bs_byte s x (rst_mem (rst_mem hx))
  have hsz : (str (rst (rst (bs s)))).size = (rst (rst (bs s))).length := str_size _
  generalize str (rst (bs s)) = Y at *
  generalize str (rst (rst (bs s))) = Z at *
  generalize num (wrd (bs s)) = A at *
  generalize num (wrd (rst (bs s))) = B at *
  generalize rst (rst (bs s)) = q at *
  subst hq
  clear hG
  cases A with
  | none =>
    have H : Hid (rng 114 (bs s) = none) := rng_none (e1 rfl)
    clear e1 e2 e3 l1 l2 hsz
    go_enter Tryd.func32, Tryd.ntmps32
    go_wp2_with fail
    refine h1.mono ?_
    rintro e w1 ⟨rfl, k1⟩
    go_wp2_with fail
    refine (h2 _).mono ?_
    rintro e w2 ⟨rfl, k2⟩
    go_wp2_with fail
    go_ret2
    exact ⟨by rw [H.out]; exact Says.none _, k1.trans k2⟩
  | some a =>
  cases B with
  | none =>
    have H : Hid (rng 114 (bs s) = none) := rng_none (e2 rfl rfl)
    clear e1 e2 e3 l1 l2 hsz
    go_enter Tryd.func32, Tryd.ntmps32
    go_wp2_with fail
    refine h1.mono ?_
    rintro e w1 ⟨rfl, k1⟩
    go_wp2_with fail
    refine (h2 _).mono ?_
    rintro e w2 ⟨rfl, k2⟩
    go_wp2_with fail
    go_ret2
    exact ⟨by rw [H.out]; exact Says.none _, k1.trans k2⟩
  | some b =>
    have H : Hid (rng 114 (bs s) = if ends (bs Z) then some ⟨114, a, b, []⟩ else none) := rng_yes (e3 rfl rfl)
    have hE := fun W => ends_any Z W
    clear e1 e2 e3 l1 l2 hsz
    generalize ends (bs Z) = E at *
    go_enter Tryd.func32, Tryd.ntmps32
    go_wp2_with fail
    refine h1.mono ?_
    rintro e w1 ⟨rfl, k1⟩
    go_wp2_with fail
    refine (h2 _).mono ?_
    rintro e w2 ⟨rfl, k2⟩
    go_wp2_with fail
    refine (hE _).mono ?_
    rintro e w3 ⟨rfl, k3⟩
    go_wp2_with fail
    go_ret2
    exact ⟨by rw [H.out]; exact Says.ite, (k1.trans k2).trans k3⟩


set_option maxHeartbeats 1000000 in
set_option maxRecDepth 100000 in
/-- ranged, trim. -/
theorem ranged_trim (s : ByteArray) (hs : s.size ≤ 1000000000000) (w : World) (hG : Gl w) : Calls Tryd.prog 32 #[.string ⟨#[116, 114, 105, 109]⟩, .string s] w fun e w' => Says (rng 116 (bs s)) e ∧ Keep (fun _ => False) w w' := by
  have h1 := cutnum_any s w
  have h2 := fun W => cutnum_any (str (rst (bs s))) W
  rw [rst_str] at h2
  have HG : Hid (Gl w) := hG
  have e1 := @two_none1 (bs s)
  have e2 := @two_none2 (bs s)
  have e3 := @two_yes (bs s)
  have l1 := rst_len (bs s)
  have l2 := rst_len (rst (bs s))
  rw [bs_len] at l1
  have hq : bs (str (rst (rst (bs s)))) = rst (rst (bs s)) := bs_str fun x hx => bs_byte s x (rst_mem (rst_mem hx))
  have hsz : (str (rst (rst (bs s)))).size = (rst (rst (bs s))).length := str_size _
  generalize str (rst (bs s)) = Y at *
  generalize str (rst (rst (bs s))) = Z at *
  generalize num (wrd (bs s)) = A at *
  generalize num (wrd (rst (bs s))) = B at *
  generalize rst (rst (bs s)) = q at *
  subst hq
  clear hG
  cases A with
  | none =>
    have H : Hid (rng 116 (bs s) = none) := rng_none (e1 rfl)
    clear e1 e2 e3 l1 l2 hsz
    go_enter Tryd.func32, Tryd.ntmps32
    go_wp2_with fail
    refine h1.mono ?_
    rintro e w1 ⟨rfl, k1⟩
    go_wp2_with fail
    refine (h2 _).mono ?_
    rintro e w2 ⟨rfl, k2⟩
    go_wp2_with fail
    go_ret2
    exact ⟨by rw [H.out]; exact Says.none _, k1.trans k2⟩
  | some a =>
  cases B with
  | none =>
    have H : Hid (rng 116 (bs s) = none) := rng_none (e2 rfl rfl)
    clear e1 e2 e3 l1 l2 hsz
    go_enter Tryd.func32, Tryd.ntmps32
    go_wp2_with fail
    refine h1.mono ?_
    rintro e w1 ⟨rfl, k1⟩
    go_wp2_with fail
    refine (h2 _).mono ?_
    rintro e w2 ⟨rfl, k2⟩
    go_wp2_with fail
    go_ret2
    exact ⟨by rw [H.out]; exact Says.none _, k1.trans k2⟩
  | some b =>
    have H : Hid (rng 116 (bs s) = if ends (bs Z) then some ⟨116, a, b, []⟩ else none) := rng_yes (e3 rfl rfl)
    have hE := fun W => ends_any Z W
    clear e1 e2 e3 l1 l2 hsz
    generalize ends (bs Z) = E at *
    go_enter Tryd.func32, Tryd.ntmps32
    go_wp2_with fail
    refine h1.mono ?_
    rintro e w1 ⟨rfl, k1⟩
    go_wp2_with fail
    refine (h2 _).mono ?_
    rintro e w2 ⟨rfl, k2⟩
    go_wp2_with fail
    refine (hE _).mono ?_
    rintro e w3 ⟨rfl, k3⟩
    go_wp2_with fail
    go_ret2
    exact ⟨by rw [H.out]; exact Says.ite, (k1.trans k2).trans k3⟩


set_option maxHeartbeats 1000000 in
set_option maxRecDepth 100000 in
/-- ranged, write. -/
theorem ranged_write (s : ByteArray) (hs : s.size ≤ 1000000000000) (w : World) (hG : Gl w) : Calls Tryd.prog 32 #[.string ⟨#[119, 114, 105, 116, 101]⟩, .string s] w fun e w' => Says (wri (bs s)) e ∧ Keep (fun _ => False) w w' := by
  have h1 := cutnum_any s w
  have h2 := fun W => cutnum_any (str (rst (bs s))) W
  rw [rst_str] at h2
  have HG : Hid (Gl w) := hG
  have e1 := @two_none1 (bs s)
  have e2 := @two_none2 (bs s)
  have e3 := @two_yes (bs s)
  have l1 := rst_len (bs s)
  have l2 := rst_len (rst (bs s))
  rw [bs_len] at l1
  have hq : bs (str (rst (rst (bs s)))) = rst (rst (bs s)) := bs_str fun x hx => bs_byte s x (rst_mem (rst_mem hx))
  have hsz : (str (rst (rst (bs s)))).size = (rst (rst (bs s))).length := str_size _
  generalize str (rst (bs s)) = Y at *
  generalize str (rst (rst (bs s))) = Z at *
  generalize num (wrd (bs s)) = A at *
  generalize num (wrd (rst (bs s))) = B at *
  generalize rst (rst (bs s)) = q at *
  subst hq
  clear hG
  cases A with
  | none =>
    have H : Hid (wri (bs s) = none) := wri_none (e1 rfl)
    clear e1 e2 e3 l1 l2 hsz
    go_enter Tryd.func32, Tryd.ntmps32
    go_wp2_with fail
    refine h1.mono ?_
    rintro e w1 ⟨rfl, k1⟩
    go_wp2_with fail
    refine (h2 _).mono ?_
    rintro e w2 ⟨rfl, k2⟩
    go_wp2_with fail
    go_ret2
    exact ⟨by rw [H.out]; exact Says.none _, k1.trans k2⟩
  | some a =>
  cases B with
  | none =>
    have H : Hid (wri (bs s) = none) := wri_none (e2 rfl rfl)
    clear e1 e2 e3 l1 l2 hsz
    go_enter Tryd.func32, Tryd.ntmps32
    go_wp2_with fail
    refine h1.mono ?_
    rintro e w1 ⟨rfl, k1⟩
    go_wp2_with fail
    refine (h2 _).mono ?_
    rintro e w2 ⟨rfl, k2⟩
    go_wp2_with fail
    go_ret2
    exact ⟨by rw [H.out]; exact Says.none _, k1.trans k2⟩
  | some b =>
    have H : Hid (wri (bs s) = (Qm.read (skp (bs Z))).bind fun y => if ends ((skp (bs Z)).drop y.2) then some ⟨119, a, b, y.1⟩ else none) := wri_yes (e3 rfl rfl)
    have HZ : Hid (Z.size ≤ 1000000000000) := by show _ ≤ _; omega
    clear e1 e2 e3 l1 l2 hsz
    go_enter Tryd.func32, Tryd.ntmps32
    go_wp2_with fail
    refine h1.mono ?_
    rintro e w1 ⟨rfl, k1⟩
    go_wp2_with fail
    refine (h2 _).mono ?_
    rintro e w2 ⟨rfl, k2⟩
    have hL := last_any Z HZ.out w2 ((HG.out.keep k1).keep k2)
    go_wp2_with fail
    refine hL.mono ?_
    rintro e w3 ⟨h, k3⟩
    rcases h with ⟨x, n, h, rfl⟩ | ⟨h, rfl⟩
    · have H2 : Hid (wri (bs s) = if ends ((skp (bs Z)).drop n) then some ⟨119, a, b, x⟩ else none) := by show _ = _; rw [H.out, h]; rfl
      clear h hL H
      generalize ends ((skp (bs Z)).drop n) = E at *
      go_wp2_with fail
      go_ret2
      exact ⟨by rw [H2.out]; exact Says.ite, (k1.trans k2).trans k3⟩
    · have H2 : Hid (wri (bs s) = none) := by show _ = _; rw [H.out, h]; rfl
      clear h hL H
      go_wp2_with fail
      go_ret2
      exact ⟨by rw [H2.out]; exact Says.none _, (k1.trans k2).trans k3⟩


set_option maxHeartbeats 1000000 in
set_option maxRecDepth 100000 in
/-- counted, cut. -/
theorem counted_cut (s : ByteArray) (w : World) : Calls Tryd.prog 33 #[.string ⟨#[99, 117, 116]⟩, .string s] w fun e w' => Says (cnt 99 (bs s)) e ∧ Keep (fun _ => False) w w' := by
  have h1 := cutnum_any s w
  have hE := fun W => ends_any (str (rst (bs s))) W
  rw [rst_str] at hE
  have hc : cnt 99 (bs s) = (num (wrd (bs s))).bind fun a => if ends (rst (bs s)) then some ⟨99, a, 0, []⟩ else none := rfl
  generalize str (rst (bs s)) = Y at *
  generalize num (wrd (bs s)) = A at *
  generalize ends (rst (bs s)) = E at *
  cases A with
  | none =>
    have H : Hid (cnt 99 (bs s) = none) := hc
    clear hc
    go_enter Tryd.func33, Tryd.ntmps33
    go_wp2_with fail
    refine h1.mono ?_
    rintro e w1 ⟨rfl, k1⟩
    go_wp2_with fail
    go_ret2
    exact ⟨by rw [H.out]; exact Says.none _, k1⟩
  | some a =>
    cases E
    · have H : Hid (cnt 99 (bs s) = none) := hc
      clear hc
      go_enter Tryd.func33, Tryd.ntmps33
      go_wp2_with fail
      refine h1.mono ?_
      rintro e w1 ⟨rfl, k1⟩
      go_wp2_with fail
      refine (hE _).mono ?_
      rintro e w2 ⟨rfl, k2⟩
      go_wp2_with fail
      go_ret2
      exact ⟨by rw [H.out]; exact Says.none _, k1.trans k2⟩
    · have H : Hid (cnt 99 (bs s) = some ⟨99, a, 0, []⟩) := hc
      clear hc
      go_enter Tryd.func33, Tryd.ntmps33
      go_wp2_with fail
      refine h1.mono ?_
      rintro e w1 ⟨rfl, k1⟩
      go_wp2_with fail
      refine (hE _).mono ?_
      rintro e w2 ⟨rfl, k2⟩
      go_wp2_with fail
      go_ret2
      exact ⟨by rw [H.out]; exact Says.some _, k1.trans k2⟩


set_option maxHeartbeats 1000000 in
set_option maxRecDepth 100000 in
/-- counted, fail. -/
theorem counted_fail (s : ByteArray) (w : World) : Calls Tryd.prog 33 #[.string ⟨#[102, 97, 105, 108]⟩, .string s] w fun e w' => Says (cnt 102 (bs s)) e ∧ Keep (fun _ => False) w w' := by
  have h1 := cutnum_any s w
  have hE := fun W => ends_any (str (rst (bs s))) W
  rw [rst_str] at hE
  have hc : cnt 102 (bs s) = (num (wrd (bs s))).bind fun a => if ends (rst (bs s)) then some ⟨102, a, 0, []⟩ else none := rfl
  generalize str (rst (bs s)) = Y at *
  generalize num (wrd (bs s)) = A at *
  generalize ends (rst (bs s)) = E at *
  cases A with
  | none =>
    have H : Hid (cnt 102 (bs s) = none) := hc
    clear hc
    go_enter Tryd.func33, Tryd.ntmps33
    go_wp2_with fail
    refine h1.mono ?_
    rintro e w1 ⟨rfl, k1⟩
    go_wp2_with fail
    go_ret2
    exact ⟨by rw [H.out]; exact Says.none _, k1⟩
  | some a =>
    cases E
    · have H : Hid (cnt 102 (bs s) = none) := hc
      clear hc
      go_enter Tryd.func33, Tryd.ntmps33
      go_wp2_with fail
      refine h1.mono ?_
      rintro e w1 ⟨rfl, k1⟩
      go_wp2_with fail
      refine (hE _).mono ?_
      rintro e w2 ⟨rfl, k2⟩
      go_wp2_with fail
      go_ret2
      exact ⟨by rw [H.out]; exact Says.none _, k1.trans k2⟩
    · have H : Hid (cnt 102 (bs s) = some ⟨102, a, 0, []⟩) := hc
      clear hc
      go_enter Tryd.func33, Tryd.ntmps33
      go_wp2_with fail
      refine h1.mono ?_
      rintro e w1 ⟨rfl, k1⟩
      go_wp2_with fail
      refine (hE _).mono ?_
      rintro e w2 ⟨rfl, k2⟩
      go_wp2_with fail
      go_ret2
      exact ⟨by rw [H.out]; exact Says.some _, k1.trans k2⟩


set_option maxHeartbeats 1000000 in
set_option maxRecDepth 100000 in
/-- counted, mount. -/
theorem counted_mount (s : ByteArray) (w : World) : Calls Tryd.prog 33 #[.string ⟨#[109, 111, 117, 110, 116]⟩, .string s] w fun e w' => Says (cnt 109 (bs s)) e ∧ Keep (fun _ => False) w w' := by
  have h1 := cutnum_any s w
  have hE := fun W => ends_any (str (rst (bs s))) W
  rw [rst_str] at hE
  have hc : cnt 109 (bs s) = (num (wrd (bs s))).bind fun a => if ends (rst (bs s)) then some ⟨109, a, 0, []⟩ else none := rfl
  generalize str (rst (bs s)) = Y at *
  generalize num (wrd (bs s)) = A at *
  generalize ends (rst (bs s)) = E at *
  cases A with
  | none =>
    have H : Hid (cnt 109 (bs s) = none) := hc
    clear hc
    go_enter Tryd.func33, Tryd.ntmps33
    go_wp2_with fail
    refine h1.mono ?_
    rintro e w1 ⟨rfl, k1⟩
    go_wp2_with fail
    go_ret2
    exact ⟨by rw [H.out]; exact Says.none _, k1⟩
  | some a =>
    cases E
    · have H : Hid (cnt 109 (bs s) = none) := hc
      clear hc
      go_enter Tryd.func33, Tryd.ntmps33
      go_wp2_with fail
      refine h1.mono ?_
      rintro e w1 ⟨rfl, k1⟩
      go_wp2_with fail
      refine (hE _).mono ?_
      rintro e w2 ⟨rfl, k2⟩
      go_wp2_with fail
      go_ret2
      exact ⟨by rw [H.out]; exact Says.none _, k1.trans k2⟩
    · have H : Hid (cnt 109 (bs s) = some ⟨109, a, 0, []⟩) := hc
      clear hc
      go_enter Tryd.func33, Tryd.ntmps33
      go_wp2_with fail
      refine h1.mono ?_
      rintro e w1 ⟨rfl, k1⟩
      go_wp2_with fail
      refine (hE _).mono ?_
      rintro e w2 ⟨rfl, k2⟩
      go_wp2_with fail
      go_ret2
      exact ⟨by rw [H.out]; exact Says.some _, k1.trans k2⟩


/-- A word that is not one of the known. -/
theorem word_no {X : ByteArray} {l : List Nat} {B : ByteArray} (hB : str l = B) (h : ¬ bs X = l) (hb : ∀ x ∈ l, x < 256) : (X.toList == B.toList) = false := beq_no fun e => h (by rw [e, ← hB, bs_str hb])


set_option maxHeartbeats 2000000 in
set_option maxRecDepth 100000 in
/-- command. -/
theorem command_any (s : ByteArray) (hs : s.size ≤ 1000000000000) (w : World) (hG : Gl w) : Calls Tryd.prog 20 #[.string s] w fun e w' => Says (cmd (bs s)) e ∧ Keep (fun _ => False) w w' := by
  have hc := cut_any s w
  have hl := rst_len (bs s)
  rw [bs_len] at hl
  have hcm : cmd (bs s) = if wrd (bs s) = sRead then rng 114 (rst (bs s)) else if wrd (bs s) = sWrite then wri (rst (bs s)) else if wrd (bs s) = sTrim then rng 116 (rst (bs s))
    else if wrd (bs s) = sCut then cnt 99 (rst (bs s)) else if wrd (bs s) = sFail then cnt 102 (rst (bs s))
    else if wrd (bs s) = sMount then (if ends (rst (bs s)) then some ⟨109, -1, 0, []⟩ else cnt 109 (rst (bs s)))
    else if wrd (bs s) = sShow then (if ends (rst (bs s)) then some ⟨115, 0, 0, []⟩ else none)
    else if wrd (bs s) = sStat then (if ends (rst (bs s)) then some ⟨105, 0, 0, []⟩ else none) else none := rfl
  have hw := wrd_str s
  have hr := rst_str s
  have hsz : (str (rst (bs s))).size = (rst (bs s)).length := str_size _
  have hX : str (wrd (bs s)) = str (wrd (bs s)) := rfl
  generalize cmd (bs s) = C at *
  generalize wrd (bs s) = D at *
  generalize rst (bs s) = R at *
  generalize str R = Y at *
  generalize hXe : str D = X at *
  subst hr
  have HG : Hid (Gl w) := hG
  have HY : Hid (Y.size ≤ 1000000000000) := by show _ ≤ _; omega
  clear hG hl hs hsz hX
  by_cases h0 : D = sRead
  · rw [if_pos h0] at hcm
    have hX2 : X = ⟨#[114, 101, 97, 100]⟩ := by rw [← hXe, h0]; rfl
    subst hX2
    have HC : Hid (C = _) := hcm
    clear hcm
    clear hw hXe h0
    go_enter Tryd.func20, Tryd.ntmps20
    go_wp2_with fail
    refine hc.mono ?_
    rintro e w1 ⟨rfl, k1⟩
    have hk := ranged_read Y HY.out w1 (HG.out.keep k1)
    go_wp2_with fail
    refine hk.mono ?_
    rintro e w2 ⟨⟨v, rfl, hv⟩, k2⟩
    have HV : Hid (∀ c, _ = some c → v = cv c) := hv
    clear hv hk
    rw [← HC.out]
    have HV2 := HV
    rw [← HC.out] at HV2
    clear HV HC
    generalize hB : C.isSome = B
    go_wp2_with fail
    go_ret2
    exact ⟨⟨v, by rw [hB]; rfl, HV2.out⟩, k1.trans k2⟩
  rw [if_neg h0] at hcm
  have n0 := word_no (X := X) (l := sRead) (B := ⟨#[114, 101, 97, 100]⟩) rfl (by rw [hw]; exact h0) (by decide)
  rw [ByteArray.toList_eq ⟨#[114, 101, 97, 100]⟩] at n0
  by_cases h1 : D = sWrite
  · rw [if_pos h1] at hcm
    have hX2 : X = ⟨#[119, 114, 105, 116, 101]⟩ := by rw [← hXe, h1]; rfl
    subst hX2
    have HC : Hid (C = _) := hcm
    clear hcm
    clear hw hXe h0 h1
    go_enter Tryd.func20, Tryd.ntmps20
    go_wp2_with fail
    refine hc.mono ?_
    rintro e w1 ⟨rfl, k1⟩
    have hk := ranged_write Y HY.out w1 (HG.out.keep k1)
    go_wp2_with fail
    refine hk.mono ?_
    rintro e w2 ⟨⟨v, rfl, hv⟩, k2⟩
    have HV : Hid (∀ c, _ = some c → v = cv c) := hv
    clear hv hk
    rw [← HC.out]
    have HV2 := HV
    rw [← HC.out] at HV2
    clear HV HC
    generalize hB : C.isSome = B
    go_wp2_with fail
    go_ret2
    exact ⟨⟨v, by rw [hB]; rfl, HV2.out⟩, k1.trans k2⟩
  rw [if_neg h1] at hcm
  have n1 := word_no (X := X) (l := sWrite) (B := ⟨#[119, 114, 105, 116, 101]⟩) rfl (by rw [hw]; exact h1) (by decide)
  rw [ByteArray.toList_eq ⟨#[119, 114, 105, 116, 101]⟩] at n1
  by_cases h2 : D = sTrim
  · rw [if_pos h2] at hcm
    have hX2 : X = ⟨#[116, 114, 105, 109]⟩ := by rw [← hXe, h2]; rfl
    subst hX2
    have HC : Hid (C = _) := hcm
    clear hcm
    clear hw hXe h0 h1 h2
    go_enter Tryd.func20, Tryd.ntmps20
    go_wp2_with fail
    refine hc.mono ?_
    rintro e w1 ⟨rfl, k1⟩
    have hk := ranged_trim Y HY.out w1 (HG.out.keep k1)
    go_wp2_with fail
    refine hk.mono ?_
    rintro e w2 ⟨⟨v, rfl, hv⟩, k2⟩
    have HV : Hid (∀ c, _ = some c → v = cv c) := hv
    clear hv hk
    rw [← HC.out]
    have HV2 := HV
    rw [← HC.out] at HV2
    clear HV HC
    generalize hB : C.isSome = B
    go_wp2_with fail
    go_ret2
    exact ⟨⟨v, by rw [hB]; rfl, HV2.out⟩, k1.trans k2⟩
  rw [if_neg h2] at hcm
  have n2 := word_no (X := X) (l := sTrim) (B := ⟨#[116, 114, 105, 109]⟩) rfl (by rw [hw]; exact h2) (by decide)
  rw [ByteArray.toList_eq ⟨#[116, 114, 105, 109]⟩] at n2
  by_cases h3 : D = sCut
  · rw [if_pos h3] at hcm
    have hX2 : X = ⟨#[99, 117, 116]⟩ := by rw [← hXe, h3]; rfl
    subst hX2
    have HC : Hid (C = _) := hcm
    clear hcm
    clear hw hXe h0 h1 h2 h3
    go_enter Tryd.func20, Tryd.ntmps20
    go_wp2_with fail
    refine hc.mono ?_
    rintro e w1 ⟨rfl, k1⟩
    have hk := counted_cut Y w1
    go_wp2_with fail
    refine hk.mono ?_
    rintro e w2 ⟨⟨v, rfl, hv⟩, k2⟩
    have HV : Hid (∀ c, _ = some c → v = cv c) := hv
    clear hv hk
    rw [← HC.out]
    have HV2 := HV
    rw [← HC.out] at HV2
    clear HV HC
    generalize hB : C.isSome = B
    go_wp2_with fail
    go_ret2
    exact ⟨⟨v, by rw [hB]; rfl, HV2.out⟩, k1.trans k2⟩
  rw [if_neg h3] at hcm
  have n3 := word_no (X := X) (l := sCut) (B := ⟨#[99, 117, 116]⟩) rfl (by rw [hw]; exact h3) (by decide)
  rw [ByteArray.toList_eq ⟨#[99, 117, 116]⟩] at n3
  by_cases h4 : D = sFail
  · rw [if_pos h4] at hcm
    have hX2 : X = ⟨#[102, 97, 105, 108]⟩ := by rw [← hXe, h4]; rfl
    subst hX2
    have HC : Hid (C = _) := hcm
    clear hcm
    clear hw hXe h0 h1 h2 h3 h4
    go_enter Tryd.func20, Tryd.ntmps20
    go_wp2_with fail
    refine hc.mono ?_
    rintro e w1 ⟨rfl, k1⟩
    have hk := counted_fail Y w1
    go_wp2_with fail
    refine hk.mono ?_
    rintro e w2 ⟨⟨v, rfl, hv⟩, k2⟩
    have HV : Hid (∀ c, _ = some c → v = cv c) := hv
    clear hv hk
    rw [← HC.out]
    have HV2 := HV
    rw [← HC.out] at HV2
    clear HV HC
    generalize hB : C.isSome = B
    go_wp2_with fail
    go_ret2
    exact ⟨⟨v, by rw [hB]; rfl, HV2.out⟩, k1.trans k2⟩
  rw [if_neg h4] at hcm
  have n4 := word_no (X := X) (l := sFail) (B := ⟨#[102, 97, 105, 108]⟩) rfl (by rw [hw]; exact h4) (by decide)
  rw [ByteArray.toList_eq ⟨#[102, 97, 105, 108]⟩] at n4
  by_cases h5 : D = sMount
  · rw [if_pos h5] at hcm
    have hX2 : X = ⟨#[109, 111, 117, 110, 116]⟩ := by rw [← hXe, h5]; rfl
    subst hX2
    have hE := fun W => ends_any Y W
    generalize ends (bs Y) = E at *
    cases E
    · have HC : Hid (C = cnt 109 (bs Y)) := by show _ = _; simpa using hcm
      clear hcm
      clear hw hXe h0 h1 h2 h3 h4 h5
      go_enter Tryd.func20, Tryd.ntmps20
      go_wp2_with fail
      refine hc.mono ?_
      rintro e w1 ⟨rfl, k1⟩
      go_wp2_with fail
      refine (hE _).mono ?_
      rintro e w2 ⟨rfl, k2⟩
      have hk := counted_mount Y w2
      go_wp2_with fail
      refine hk.mono ?_
      rintro e w3 ⟨⟨v, rfl, hv⟩, k3⟩
      rw [← HC.out] at hv ⊢
      have HV : Hid (∀ c, C = some c → v = cv c) := hv
      clear hv hk HC
      generalize hB : C.isSome = B
      go_wp2_with fail
      go_ret2
      exact ⟨⟨v, by rw [hB]; rfl, HV.out⟩, (k1.trans k2).trans k3⟩
    · have HC : Hid (C = some ⟨109, -1, 0, []⟩) := by show _ = _; simpa using hcm
      clear hcm
      clear hw hXe h0 h1 h2 h3 h4 h5
      go_enter Tryd.func20, Tryd.ntmps20
      go_wp2_with fail
      refine hc.mono ?_
      rintro e w1 ⟨rfl, k1⟩
      go_wp2_with fail
      refine (hE _).mono ?_
      rintro e w2 ⟨rfl, k2⟩
      go_wp2_with fail
      go_ret2
      exact ⟨by rw [HC.out]; exact Says.some _, k1.trans k2⟩
  rw [if_neg h5] at hcm
  have n5 := word_no (X := X) (l := sMount) (B := ⟨#[109, 111, 117, 110, 116]⟩) rfl (by rw [hw]; exact h5) (by decide)
  rw [ByteArray.toList_eq ⟨#[109, 111, 117, 110, 116]⟩] at n5
  by_cases h6 : D = sShow
  · rw [if_pos h6] at hcm
    have hX2 : X = ⟨#[115, 104, 111, 119]⟩ := by rw [← hXe, h6]; rfl
    subst hX2
    have hE := fun W => ends_any Y W
    have HC : Hid (C = if ends (bs Y) then some ⟨115, 0, 0, []⟩ else none) := hcm
    clear hcm
    generalize ends (bs Y) = E at *
    clear hw hXe h0 h1 h2 h3 h4 h5 h6
    go_enter Tryd.func20, Tryd.ntmps20
    go_wp2_with fail
    refine hc.mono ?_
    rintro e w1 ⟨rfl, k1⟩
    go_wp2_with fail
    refine (hE _).mono ?_
    rintro e w2 ⟨rfl, k2⟩
    go_wp2_with fail
    go_ret2
    exact ⟨by rw [HC.out]; exact Says.ite, k1.trans k2⟩
  rw [if_neg h6] at hcm
  have n6 := word_no (X := X) (l := sShow) (B := ⟨#[115, 104, 111, 119]⟩) rfl (by rw [hw]; exact h6) (by decide)
  rw [ByteArray.toList_eq ⟨#[115, 104, 111, 119]⟩] at n6
  by_cases h7 : D = sStat
  · rw [if_pos h7] at hcm
    have hX2 : X = ⟨#[115, 116, 97, 116]⟩ := by rw [← hXe, h7]; rfl
    subst hX2
    have hE := fun W => ends_any Y W
    have HC : Hid (C = if ends (bs Y) then some ⟨105, 0, 0, []⟩ else none) := hcm
    clear hcm
    generalize ends (bs Y) = E at *
    clear hw hXe h0 h1 h2 h3 h4 h5 h6 h7
    go_enter Tryd.func20, Tryd.ntmps20
    go_wp2_with fail
    refine hc.mono ?_
    rintro e w1 ⟨rfl, k1⟩
    go_wp2_with fail
    refine (hE _).mono ?_
    rintro e w2 ⟨rfl, k2⟩
    go_wp2_with fail
    go_ret2
    exact ⟨by rw [HC.out]; exact Says.ite, k1.trans k2⟩
  rw [if_neg h7] at hcm
  have n7 := word_no (X := X) (l := sStat) (B := ⟨#[115, 116, 97, 116]⟩) rfl (by rw [hw]; exact h7) (by decide)
  rw [ByteArray.toList_eq ⟨#[115, 116, 97, 116]⟩] at n7
  clear hw hXe h0 h1 h2 h3 h4 h5 h6 h7
  have HC : Hid (C = none) := hcm
  clear hcm
  go_enter Tryd.func20, Tryd.ntmps20
  go_wp2_with fail
  refine hc.mono ?_
  rintro e w1 ⟨rfl, k1⟩
  go_wp2_with fail
  go_ret2
  exact ⟨by rw [HC.out]; exact Says.none _, k1⟩

end Tg
end Go.Proofs.YtgilagmgepogbaaDoor
