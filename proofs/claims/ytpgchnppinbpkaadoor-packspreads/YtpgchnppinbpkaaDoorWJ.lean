/- What with of package ledger leaves; cells stored into one block. -/
import Derived.Test.YtpgchnppinbpkaaDoorCK
namespace Go.Proofs.YtpgchnppinbpkaaDoor
open Go.RowKit Go.Maps

/-- What is used, what there is, are numbers. -/
structure Rec.Fair (r : Rec) : Prop where
  u : 0 ≤ r.u
  m : 0 ≤ r.m
  cu : r.u ≤ 9223372036854775807
  cm : r.m ≤ 9223372036854775807
  cpu : r.cpu ≤ 9223372036854775807
  mem : r.mem ≤ 9223372036854775807
theorem zrec_fair : zrec.Fair := ⟨by decide, by decide, by decide, by decide, by decide, by decide⟩

/-- One place more on a node. -/
def Rec.plus (r : Rec) (q : Pl) : Rec := { r with u := r.u + q.cpu, m := r.m + q.mem, k := wrap64 (r.k + 1) }
def nowR (E A : List (ByteArray × Rec)) (s : ByteArray) : Rec := (look A s).getD ((look E s).getD zrec)
def withF (E : List (ByteArray × Rec)) : List (ByteArray × Rec) → List Pl → Option (List (ByteArray × Rec))
  | A, [] => some A
  | A, q :: t => if (nowR E A q.node).u + q.cpu ≤ (nowR E A q.node).cpu ∧ (nowR E A q.node).m + q.mem ≤ (nowR E A q.node).mem then withF E (put sK A q.node ((nowR E A q.node).plus q)) t else none

theorem Rec.Ok.plus {w : World} {fp : Nat → Prop} {r : Rec} (h : r.Ok w fp) (q : Pl) : (r.plus q).Ok w fp := ⟨h.h1, h.h2, h.f1, h.f2, h.s1, h.s2⟩
theorem Rec.Fair.plus {r : Rec} (h : r.Fair) {q : Pl} (hq : 0 ≤ q.cpu ∧ 0 ≤ q.mem) (hf : r.u + q.cpu ≤ r.cpu ∧ r.m + q.mem ≤ r.mem) : (r.plus q).Fair := by
  obtain ⟨h1, h2, h3, h4, h5, h6⟩ := h
  exact ⟨by simp [Rec.plus]; omega, by simp [Rec.plus]; omega, by simp [Rec.plus]; omega, by simp [Rec.plus]; omega, h5, h6⟩

/-- Nine cells of one block, stored. -/
abbrev nine (W : World) (T : Nat) (v0 v1 v2 v3 v4 v5 v6 v7 v8 : Value) : World :=
  ((((((((W.setCell ⟨T, 0, none⟩ v0).setCell ⟨T, 1, none⟩ v1).setCell ⟨T, 2, none⟩ v2).setCell ⟨T, 3, none⟩ v3).setCell ⟨T, 4, none⟩ v4).setCell ⟨T, 5, none⟩ v5).setCell ⟨T, 6, none⟩ v6).setCell ⟨T, 7, none⟩ v7).setCell ⟨T, 8, none⟩ v8
theorem nine_box {W : World} {T : Nat} {t : TypeId} {x0 x1 x2 x3 x4 x5 x6 x7 x8 : Value} (h : Box W T #[x0, x1, x2, x3, x4, x5, x6, x7, x8] t) (v0 v1 v2 v3 v4 v5 v6 v7 v8 : Value) : Box (nine W T v0 v1 v2 v3 v4 v5 v6 v7 v8) T #[v0, v1, v2, v3, v4, v5, v6, v7, v8] t := by
  have h0 := h.set 0 v0
  simp only [List.setIfInBounds_toArray, List.set_cons_zero] at h0
  have h1 := h0.set 1 v1
  simp only [List.setIfInBounds_toArray, List.set_cons_succ, List.set_cons_zero] at h1
  have h2 := h1.set 2 v2
  simp only [List.setIfInBounds_toArray, List.set_cons_succ, List.set_cons_zero] at h2
  have h3 := h2.set 3 v3
  simp only [List.setIfInBounds_toArray, List.set_cons_succ, List.set_cons_zero] at h3
  have h4 := h3.set 4 v4
  simp only [List.setIfInBounds_toArray, List.set_cons_succ, List.set_cons_zero] at h4
  have h5 := h4.set 5 v5
  simp only [List.setIfInBounds_toArray, List.set_cons_succ, List.set_cons_zero] at h5
  have h6 := h5.set 6 v6
  simp only [List.setIfInBounds_toArray, List.set_cons_succ, List.set_cons_zero] at h6
  have h7 := h6.set 7 v7
  simp only [List.setIfInBounds_toArray, List.set_cons_succ, List.set_cons_zero] at h7
  have h8 := h7.set 8 v8
  simp only [List.setIfInBounds_toArray, List.set_cons_succ, List.set_cons_zero] at h8
  exact h8
theorem nine_grown (W : World) (T : Nat) (v0 v1 v2 v3 v4 v5 v6 v7 v8 : Value) : W.grownBy (nine W T v0 v1 v2 v3 v4 v5 v6 v7 v8) (some T) :=
  grown_trans (grown_trans (grown_trans (grown_trans (grown_trans (grown_trans (grown_trans (grown_trans (grown_set _ T 0 _) (grown_set _ T 1 _)) (grown_set _ T 2 _)) (grown_set _ T 3 _)) (grown_set _ T 4 _)) (grown_set _ T 5 _)) (grown_set _ T 6 _)) (grown_set _ T 7 _)) (grown_set _ T 8 _)
theorem IsL.grownO {w w' : World} {L : Nat} {fp : Nat → Prop} {p q : Option Nat} {E : List (ByteArray × Rec)} {G : List (Int × Grp)} {b : Nat} (h : IsL w L fp p q E G) (hg : w.grownBy w' (some b)) (hb : ¬ fp b) : IsL w' L fp p q E G :=
  h.frame (fun k hk => hg.block k (h.lt k hk) (fun e => hb (by cases e; exact hk))) hg.size
theorem NOwn.grownO {w w' : World} {b c : Nat} {M : List (ByteArray × Rec)} (h : NOwn w b M) (hg : w.grownBy w' (some c)) (hne : b ≠ c) : NOwn w' b M := h.kept (hg.block b h.lt (by simpa using hne))

/-- What with leaves. -/
def WithPost (w : World) (fp : Nat → Prop) (R : Option (List (ByteArray × Rec))) (e : Ending) (w' : World) : Prop :=
  (R = none ∧ e = .returned (.tuple #[.map none, .int .i64 6])) ∨ ∃ A, R = some A ∧ e = .returned (.tuple #[.map (some w.heap.size), .int .i64 0]) ∧ NOwn w' w.heap.size A ∧ (∀ e ∈ A, e.2.Ok w fp ∧ e.2.Fair)

end Go.Proofs.YtpgchnppinbpkaaDoor
