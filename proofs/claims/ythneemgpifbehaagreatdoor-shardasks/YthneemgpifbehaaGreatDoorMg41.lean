/- What the listed tables give the walks: the table of tens, the table of the modes. -/
import Derived.Test.YthneemgpifbehaaGreatDoorMg30
import Derived.Test.YthneemgpifbehaaGreatDoorMg17
import Derived.ProofKit
import Derived.LaidMore
import Derived.OpenShut
import Derived.Deep.Strs
import Derived.Stop.Joined
import Derived.Stop.LaidErr
import Derived.Lib.LaidTab
namespace Go.Proofs.YthneemgpifbehaaGreatDoor
set_option maxRecDepth 100000
open Go.ChangeShapes Go.WideShapes Go.ChangeAt Go.WideMaps Go.WideElems Go.RowKit

/-- The list of the rows. -/
abbrev laidT : List (String × DataW Unit) := Rows.shardLeaseRow.laid
/-- The name of the table of the modes. -/
abbrev termsName : String := (laidT.map (·.1)).getD 3 default

theorem gPow : Tryz.prog.globalNamed Tryz.powName = some 1 := by kernel_rfl
theorem tPow : (Tryz.prog.globals[1]?).map (·.type) = some 335 := by kernel_rfl
theorem cU64 : Tryz.prog.cellsOf 263 = 1 := by kernel_rfl
theorem cPow : Tryz.prog.cellsOf 335 = 20 := by kernel_rfl
theorem gTerms : Tryz.prog.globalNamed termsName = some 0 := by kernel_rfl
theorem tTerms : (Tryz.prog.globals[0]?).map (·.type) = some 332 := by kernel_rfl

/-- The door's own heap meets the condition. -/
theorem door_met (os : Os) (args : Array Value) : laidMetH Tryz.prog laidT ((World.doorLaid Tryz.prog 400 os).forCall (fun _ _ => 0) ⟨#[], args, []⟩).memory :=
  laidMetH_of_parts3 (fuel := 8) (laidMet_of_run' 8 (by kernel_rfl) (by kernel_rfl)) (by kernel_rfl) (by kernel_rfl)

theorem c3 : Tryz.prog.cellsOf 3 = 1 := by kernel_rfl
theorem cT : Tryz.prog.cellsOf 331 = 3 := by kernel_rfl
theorem cTT : Tryz.prog.cellsOf 332 = 9 := by kernel_rfl

section
variable {H : Type} {enc : TypeId × Value → H} {W : World} {base : Nat} {spare : Nat → Bool} {held : Bool}

/-- A row of the table. -/
theorem row3 {m : Nat} {cs : List Value} {x : DataW H × List MemPlace} {a b c : Int} (h : DataW.trod enc Tryz.prog W base spare held m 331 cs = some x) (hx : x.1 = .agg [.lit (.int .i64 a), .lit (.int .i64 b), .lit (.int .i64 c)]) :
    cs = [.int .i64 a, .int .i64 b, .int .i64 c] := by
  obtain ⟨y0, y1, y2, n, rfl, hl, h0, h1, h2⟩ := Go.Deep.trod_struct3 Tryz.underlying331 h
  rw [cT] at hl
  match cs, hl with
  | [v0, v1, v2], _ =>
    obtain ⟨k0, e0, f0, _⟩ := DataW.trod_int Tryz.underlying3 (show DataW.trod enc Tryz.prog W base spare held n 3 _ = some y0 from h0)
    obtain ⟨k1, e1, f1, _⟩ := DataW.trod_int Tryz.underlying3 (show DataW.trod enc Tryz.prog W base spare held n 3 _ = some y1 from h1)
    obtain ⟨k2, e2, f2, _⟩ := DataW.trod_int Tryz.underlying3 (show DataW.trod enc Tryz.prog W base spare held n 3 _ = some y2 from h2)
    subst f0 f1 f2
    simp only [DataW.agg.injEq, List.cons.injEq, DataW.lit.injEq, Lit.int.injEq, and_true, true_and] at hx
    obtain ⟨rfl, rfl, rfl⟩ := hx
    rw [show Tryz.prog.cellsOf 3 = 1 from c3] at e0 e1 e2
    simp at e0 e1 e2
    rw [e0, e1, e2]
end

theorem terms_of {W : World} (h3 : laidMet Tryz.prog [(termsName, Rows.laid_joinery_score_terms)] W) : Tab W := by
  obtain ⟨ps, ⟨g0, t0, cs0, f0, p0, q0, hg0, ht0, hv0, hd0, _, _⟩, _, _⟩ := h3
  obtain rfl := Option.some.inj (gTerms.symm.trans hg0)
  obtain rfl := Option.some.inj (tTerms.symm.trans ht0)
  have hc := World.var?_cell hg0 hv0
  obtain ⟨xs, m, rfl, hx, hl, hn, hel⟩ := DataW.trod_array Tryz.underlying332 hd0
  rw [cTT] at hl
  match xs, hn with
  | [x0, x1, x2], _ =>
    simp only [Prod.mk.injEq, Rows.laid_joinery_score_terms, DataW.agg.injEq, List.map_cons, List.map_nil, List.cons.injEq, and_true] at hx
    have r0 := row3 (hel 0 (by decide)) hx.1.1.symm
    have r1 := row3 (hel 1 (by decide)) hx.1.2.1.symm
    have r2 := row3 (hel 2 (by decide)) hx.1.2.2.symm
    rw [cT] at r0 r1 r2
    obtain ⟨l⟩ := cs0
    match l, hl with
    | [v0, v1, v2, v3, v4, v5, v6, v7, v8], _ =>
      simp at r0 r1 r2
      obtain ⟨rfl, rfl, rfl⟩ := r0
      obtain ⟨rfl, rfl, rfl⟩ := r1
      obtain ⟨rfl, rfl, rfl⟩ := r2
      exact ⟨by simpa using hc 0, by simpa using hc 1, by simpa using hc 2, by simpa using hc 3, by simpa using hc 4, by simpa using hc 5, by simpa using hc 6, by simpa using hc 7, by simpa using hc 8⟩

/-- What the condition gives the walks. -/
theorem tab_of_laid {W : World} (h : laidMetH Tryz.prog laidT W) : Base W.heap.size W := by
  rw [MakeChecks.laidMetH_plain _ _ _ (by kernel_rfl)] at h
  have h2 : laidMet Tryz.prog [(Tryz.powName, Lib.tabData .u64 Lib.pow10Tab), (termsName, Rows.laid_joinery_score_terms)] W := laidMet.tail (laidMet.tail h)
  have hT := terms_of (laidMet.tail h2)
  have h0 := block_lt hT.c0
  exact ⟨Nat.le_refl _, by omega, hT, TabB.new (Lib.tabIs_of_head gPow tPow Tryz.underlying335 Tryz.underlying263 cU64 cPow h2)⟩

end Go.Proofs.YthneemgpifbehaaGreatDoor
