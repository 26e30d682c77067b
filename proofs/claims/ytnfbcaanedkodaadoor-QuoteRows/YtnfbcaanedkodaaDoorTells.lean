/-
  The law QuoteTells over any memory in which the library's error lies, for texts of up to some bytes.
-/
import Derived.Test.YtnfbcaanedkodaaDoorRQuote
import Derived.Test.YtnfbcaanedkodaaDoorLaid
namespace Go.Proofs.YtnfbcaanedkodaaDoor
open Go.ChangeShapes Go.WideShapes Go.ChangeAt Go.RowKit
namespace Tg
open Qm

theorem bs_append (a b : ByteArray) : bs (a ++ b) = bs a ++ bs b := by
  unfold bs
  rw [ByteArray.data_append, Array.toList_append, List.map_append]
theorem body_len (l : List Nat) : (body l).length ≤ 4 * l.length := by
  refine list_ind (P := fun l => (body l).length ≤ 4 * l.length) (by rw [body_nil]; simp) (fun l hne ih => ?_) l
  have hp := piece_pos hne
  have hl := piece_len (l := l)
  rw [body_cons hne, List.length_append]
  rw [List.length_drop] at ih
  omega

set_option maxHeartbeats 2000000 in
set_option maxRecDepth 100000 in
theorem tells_law (s behind : ByteArray) (hs : s.size ≤ 1048576) (hb : behind.size ≤ 1048576) (w : World) (hG : Gl w) :
    Calls Tryd.prog 4 #[.string s, .string behind] w fun e w' => e = .returned (.bool true) ∧ Keep (fun _ => False) w w' := by
  have ha := awake_any w hG
  have h1 := fun W => quote_any s (by omega) W
  have h2 := fun W => rquote_any s (by omega) W
  have hbq := bs_str (told_byte (bs s))
  have hsz : (str (told (bs s))).size = (told (bs s)).length := str_size _
  have hln : (told (bs s)).length ≤ 4 * s.size + 2 := by
    have := body_len (bs s)
    rw [bs_len] at this
    rw [told_len]; omega
  obtain ⟨t1, _, t3⟩ := told_runes (bs s)
  have h3 := fun W hW => read_yes (t := str (told (bs s)) ++ behind) (x := bs s) (n := (told (bs s)).length) (by rw [bs_append, hbq]; exact read_told (bs_byte s) _) (str_bs s) (by rw [ByteArray.size_append, hsz]; omega) W hW
  have h4 := fun W => rrunes_any (str (told (bs s))) (by rw [hsz]; omega) W
  rw [hbq, t1] at h4
  have h10 : ∀ k (hk : k < (str (told (bs s))).size), ((str (told (bs s)))[k]'hk).toNat ≠ 10 := fun k hk => by
    rw [bs_at hk, hbq]
    have hk' : k < (told (bs s)).length := by rw [← hsz]; exact hk
    rw [List.getD, List.getElem?_eq_getElem hk']
    exact t3 _ (List.getElem_mem hk')
  generalize (runes (told (bs s))).1 = nr at *
  rw [← hsz] at h3
  have hcc : ¬ (9223372036854775807 < (str (told (bs s))).size + behind.size) := by rw [hsz]; omega
  have hqs : (str (told (bs s))).size ≤ 8000000 := by rw [hsz]; omega
  clear hbq hsz hln t1 t3
  generalize str (told (bs s)) = q at *
  go_enter Tryd.func4, Tryd.ntmps4
  go_wp2_with fail
  refine ha.mono ?_
  rintro e w0 ⟨rfl, k0⟩
  clear ha
  go_wp2_with fail
  refine (h1 _).mono ?_
  rintro e w1 ⟨rfl, k1⟩
  have h3' := h3 w1 ((hG.keep k0).keep k1)
  clear h3 h1
  go_wp2_with fail
  refine h3'.mono ?_
  rintro e w2 ⟨rfl, k2⟩
  clear h3'
  go_wp2_with fail
  refine (h2 _).mono ?_
  rintro e w3 ⟨rfl, k3⟩
  clear h2
  go_wp2_with fail
  refine (h4 _).mono ?_
  rintro e w4 ⟨rfl, rfl⟩
  clear h4
  have HX : Hid (∀ k (hk : k < q.size), (q[k]'hk).toNat ≠ 10) := h10
  have HS : Hid (q.size ≤ 8000000) := hqs
  clear h10 hqs hcc
  go_wp2_with fail
  go_loop [11] (fun i => ∃ k : Nat, i = .int .i64 k ∧ k ≤ q.size) (fun i => q.size - (intOf i).toNat)
  case atStart => exact ⟨0, rfl, by omega⟩
  case round =>
    obtain ⟨k, rfl, hk⟩ := hrel
    by_cases hlt : k < q.size
    · have i1 : (k : Int) < q.size := by omega
      have i2 : IntKind.i64.wrap ((k : Int) + 1) = (k : Int) + 1 := by have := HS.out; rw [IntKind.wrap_i64]; omega
      have hx := HX.out k hlt
      have i3 : (((q[k]'hlt).toNat : Int) == 10) = false := by rw [beq_eq_false_iff_ne]; omega
      have i4 : ¬ ((q[k]'hlt).toNat : Int) = 10 := by omega
      have HK : Hid (k < q.size) := hlt
      clear hx hk
      go_wp2_with fail
      go_round
      case rel => exact ⟨k + 1, by go_num, HK.out⟩
      case measure => have := HK.out; simp [intOf]; omega
    · have i1 : ¬ (k : Int) < q.size := by omega
      clear hlt hk
      go_wp2_with fail
      go_ret
      exact ⟨rfl, k0.trans (k1.trans (k2.trans k3))⟩
end Tg
end Go.Proofs.YtnfbcaanedkodaaDoor
