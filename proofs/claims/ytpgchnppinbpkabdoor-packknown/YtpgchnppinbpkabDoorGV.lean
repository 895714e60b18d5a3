/- The contract of Give of package ledger. -/
import Derived.Test.YtpgchnppinbpkabDoorWJ
namespace Go.Proofs.YtpgchnppinbpkabDoor
open Go.RowKit Go.Maps

def Rec.minus (r : Rec) (q : Pl) : Rec := { r with u := r.u - q.cpu, m := r.m - q.mem, k := wrap64 (r.k - 1) }
def giveF : List (ByteArray × Rec) → List Pl → Option (List (ByteArray × Rec))
  | E, [] => some E
  | E, q :: t => match look E q.node with
    | none => none
    | some r => if q.cpu ≤ r.u ∧ q.mem ≤ r.m then giveF (put sK E q.node (r.minus q)) t else none
theorem Rec.Ok.minus {w : World} {fp : Nat → Prop} {r : Rec} (h : r.Ok w fp) (q : Pl) : (r.minus q).Ok w fp := ⟨h.h1, h.h2, h.f1, h.f2, h.s1, h.s2⟩
theorem Rec.Fair.minus {r : Rec} (h : r.Fair) {q : Pl} (hq : 0 ≤ q.cpu ∧ 0 ≤ q.mem) (hf : q.cpu ≤ r.u ∧ q.mem ≤ r.m) : (r.minus q).Fair := by
  obtain ⟨h1, h2, h3, h4, h5, h6⟩ := h
  exact ⟨by simp [Rec.minus]; omega, by simp [Rec.minus]; omega, by simp [Rec.minus]; omega, by simp [Rec.minus]; omega, h5, h6⟩



end Go.Proofs.YtpgchnppinbpkabDoor
