/-
  DeltaSnapshots' body, given what the program's own calls answer.
-/
import Derived.Test.YtlekapfhbceibaaDi
namespace Go.Proofs.Ytlekapfhbceibaa
open Go.ChangeShapes Go.WideShapes Go.ChangeAt Go.RowKit
namespace Tg
open Vi
/-- awake tells true. -/
def AwOk : Prop := ∀ w : World, Calls Try.prog 8 #[] w fun e w' => e = .returned (.bool true) ∧ Keep (fun _ => False) w w'
set_option maxRecDepth 100000 in
set_option maxHeartbeats 1000000 in
theorem snapshots_walk (HA : AwOk) (HS : SnapOk) (HR : RunsOk) {w : World} {a a2 : Option Addr} {cap cap2 : Nat} {l p : List Rn} (hR : Rz w a cap l) (hfi : Fits l) (hP : Rz w a2 cap2 p) (hfp : Fits p) :
    Calls Try.prog 6 #[.slice a l.length cap, .slice a2 p.length cap2] w fun e w' => e = .returned (.bool true) ∧ Keep (fun _ => False) w w' := by
  have hlc := hP.1
  have hlc2 := hP.2.1
  have h1 := hR.1
  have h2 := hR.2.1
  by_cases hbig : 200 < p.length
  · have hb' : (200 : Int) < (p.length : Int) := by omega
    go_enter Try.func6, Try.ntmps6
    go_wp2_with fail
    refine (HA _).mono ?_
    rintro e w1 ⟨rfl, k1⟩
    go_wp2_with fail
    refine (HA _).mono ?_
    rintro e w2 ⟨rfl, k2⟩
    go_wp2_with fail
    go_ret
    exact ⟨rfl, k1.trans k2⟩
  · have hb' : ¬ (200 : Int) < (p.length : Int) := by omega
    go_enter Try.func6, Try.ntmps6
    go_wp2_with fail
    refine (HA _).mono ?_
    rintro e w1 ⟨rfl, k1⟩
    go_wp2_with fail
    refine (snaps_any HS HR (hR.more k1) hfi).mono ?_
    rintro e w2 ⟨rfl, k2⟩
    go_wp2_with fail
    refine (fold9 (hP.more (k1.trans k2)) hfp).mono ?_
    rintro e w3 ⟨a3, c3, rfl, R3⟩
    go_wp2_with fail
    refine (snaps_any HS HR R3.rs.rz (foldR_fits p)).mono ?_
    rintro e w4 ⟨rfl, k4⟩
    go_wp2_with fail
    go_ret
    exact ⟨rfl, ((k1.trans k2).trans R3.keep).trans k4⟩
end Tg
end Go.Proofs.Ytlekapfhbceibaa
