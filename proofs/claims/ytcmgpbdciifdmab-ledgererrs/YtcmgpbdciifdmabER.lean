/- What is refused of a ledger of one node. -/
import Derived.Test.YtcmgpbdciifdmabRM
import Derived.Test.YtcmgpbdciifdmabGN
namespace Go.Proofs.Ytcmgpbdciifdmab
open Go.RowKit Go.Maps

/-- The ledger that LedgerErrs asks: four of each, three taken by gang 1. -/
structure Asked (w : World) (L : Nat) (fp : Nat → Prop) (r : Rec) (g1 : Grp) : Prop where
  one : One w L fp r (put iK [] 1 g1)
  u : r.u = 3
  m : r.m = 0
  cpu : r.cpu = 4
  mem : r.mem = 4
  k : r.k = 1
theorem Asked.later {w w' : World} {L : Nat} {fp : Nat → Prop} {r : Rec} {g1 : Grp} (h : Asked w L fp r g1) (hb : Below w.heap.size w w') : Asked w' L fp r g1 := ⟨h.one.later hb, h.u, h.m, h.cpu, h.mem, h.k⟩

/-- Places in a row that is none of the ledger's. -/
def PlB (fp : Nat → Prop) (ps : List Pl) (B : Nat) (w : World) : Prop := Pls w (some ⟨B, 0, none⟩) ps ∧ ¬ fp B
theorem PlB.later {fp : Nat → Prop} {ps : List Pl} {B : Nat} {w w' : World} (h : PlB fp ps B w) (hb : Below w.heap.size w w') : PlB fp ps B w' := ⟨h.1.later hb, h.2⟩
theorem PlB.new {w : World} {L : Nat} {fp : Nat → Prop} {r : Rec} {g1 : Grp} (h : Asked w L fp r g1) (ps : List Pl) (cs : Array Value) (hc : cs = (ps.flatMap Pl.cells).toArray) (hl : ps.length ≤ 1000) : PlB fp ps w.heap.size (w.alloc (.cells cs 32)) := by
  subst hc
  refine ⟨pls_of_cells hl fun j u hj => ?_, h.one.outs⟩
  rw [Nat.zero_add]
  exact (Box.new w _ _ rfl).cell (by simpa using hj)

abbrev mB : ByteArray := ⟨#[109]⟩
abbrev qB : ByteArray := ⟨#[98]⟩
theorem mB_ne : ¬ nB = mB := by decide
theorem look1_one (g1 : Grp) : look (put iK [] 1 g1) 1 = some g1 := rfl
theorem look1_two (g1 : Grp) : look (put iK [] 1 g1) 2 = none := rfl

/-- A call that answers a number, and changes nothing. -/
abbrev Ret (F : Nat) (args : Array Value) (w : World) (A : Int) : Prop := Calls Try.prog F args w fun e w' => e = .returned (.int .i64 A) ∧ Below w.heap.size w w'
variable {w : World} {L : Nat} {fp : Nat → Prop} {r : Rec} {g1 : Grp}
theorem err_take (h : Asked w L fp r g1) (g : Int) (hg : (Lit.int .i64 g).wf = true) (ps : List Pl) (B n : Nat) (hB : PlB fp ps B w) (hl : ps.length = n) (hz : ∀ p ∈ ps, p.node.size ≤ maxLen) (A : Int) (hA : takeE [(nB, r)] (put iK [] 1 g1) g ps = A) (hA0 : A ≠ 0) :
    Calls Try.prog 10 #[.pointer (some ⟨L, 0, none⟩), .int .i64 g, .slice (some ⟨B, 0, none⟩) n n] w fun e w' => e = .returned (.int .i64 A) ∧ Below w.heap.size w w' :=
  take_err w L fp r _ h.one g hg (by simp [put, del, ins]) (some ⟨B, 0, none⟩) n n ps hB.1 hl (SP.some _ _) hz (by intro x hx _; cases hx; exact hB.2) A hA hA0
theorem err_nil (h : Asked w L fp r g1) (g : Int) (hg : (Lit.int .i64 g).wf = true) (A : Int) (hA : takeE [(nB, r)] (put iK [] 1 g1) g [] = A) (hA0 : A ≠ 0) :
    Calls Try.prog 10 #[.pointer (some ⟨L, 0, none⟩), .int .i64 g, .slice none 0 0] w fun e w' => e = .returned (.int .i64 A) ∧ Below w.heap.size w w' :=
  take_err w L fp r _ h.one g hg (by simp [put, del, ins]) none 0 0 [] ⟨by simp, by simp⟩ rfl SP.none (by simp) (by intro x hx; cases hx) A hA hA0

theorem e1 (h : Asked w L fp r g1) : Ret 10 #[.pointer (some ⟨L, 0, none⟩), .int .i64 1, .slice none 0 0] w 4 := err_nil h 1 (by decide) 4 (by unfold takeE; rw [look1_one]; rfl) (by decide)
theorem e2 (h : Asked w L fp r g1) : Ret 10 #[.pointer (some ⟨L, 0, none⟩), .int .i64 2, .slice none 0 0] w 3 := err_nil h 2 (by decide) 3 (by unfold takeE; rw [look1_two]; rfl) (by decide)
theorem e3 (h : Asked w L fp r g1) (B : Nat) (hB : PlB fp [⟨qB, mB, 0, 0, false⟩] B w) : Ret 10 #[.pointer (some ⟨L, 0, none⟩), .int .i64 2, .slice (some ⟨B, 0, none⟩) 1 1] w 5 := err_take h 2 (by decide) _ B 1 hB rfl (by intro p hp; simp at hp; subst hp; decide) 5 (by
  unfold takeE checkF
  rw [look1_two, look_one, if_neg mB_ne]; rfl) (by decide)
theorem e4 (h : Asked w L fp r g1) (B : Nat) (hB : PlB fp [⟨qB, nB, 0, -1, false⟩] B w) : Ret 10 #[.pointer (some ⟨L, 0, none⟩), .int .i64 2, .slice (some ⟨B, 0, none⟩) 1 1] w 2 := err_take h 2 (by decide) _ B 1 hB rfl (by intro p hp; simp at hp; subst hp; decide) 2 (by
  unfold takeE checkF
  rw [look1_two, look_one, if_pos rfl]; simp) (by decide)
theorem e5' (h : Asked w L fp r g1) (c : Int) (hc : 1 < c) (B : Nat) (hB : PlB fp [⟨qB, nB, c, 0, false⟩] B w) : Ret 10 #[.pointer (some ⟨L, 0, none⟩), .int .i64 2, .slice (some ⟨B, 0, none⟩) 1 1] w 6 := err_take h 2 (by decide) _ B 1 hB rfl (by intro p hp; simp at hp; subst hp; exact nB_small) 6 (by
  have hw : withF [(nB, r)] [] [⟨qB, nB, c, 0, false⟩] = none := by
    rw [with_one r _ rfl, if_neg]
    rw [h.u, h.cpu, h.m, h.mem]
    simp
    omega
  have hk : checkF [(nB, r)] [⟨qB, nB, c, 0, false⟩] = 0 := check_one r _ rfl ⟨show 0 ≤ c by omega, Int.le_refl 0⟩
  unfold takeE
  rw [look1_two, hk, hw]; rfl) (by decide)
theorem e7 (h : Asked w L fp r g1) (B : Nat) (hB : PlB fp [⟨qB, nB, 1, 3, false⟩, ⟨⟨#[99]⟩, nB, 0, 2, false⟩] B w) : Ret 10 #[.pointer (some ⟨L, 0, none⟩), .int .i64 2, .slice (some ⟨B, 0, none⟩) 2 2] w 6 := err_take h 2 (by decide) _ B 2 hB rfl (by intro p hp; simp at hp; rcases hp with rfl | rfl <;> decide) 6 (by
  have hw : withF [(nB, r)] [] [⟨qB, nB, 1, 3, false⟩, ⟨⟨#[99]⟩, nB, 0, 2, false⟩] = none := by
    have n1 : nowR [(nB, r)] [] nB = r := rfl
    have n2 : ∀ x, nowR [(nB, r)] [(nB, x)] nB = x := fun x => by unfold nowR; rw [look_one, if_pos rfl]; rfl
    simp only [withF, n1, put_none, n2, Rec.plus, h.u, h.cpu, h.m, h.mem]
    simp
  have hc : checkF [(nB, r)] [⟨qB, nB, 1, 3, false⟩, ⟨⟨#[99]⟩, nB, 0, 2, false⟩] = 0 := by
    simp only [checkF, look_one, if_pos]
    simp
  unfold takeE
  rw [look1_two, hc, hw]; rfl) (by decide)
theorem e8 (h : Asked w L fp r g1) : Calls Try.prog 13 #[.pointer (some ⟨L, 0, none⟩), .int .i64 2] w fun e w' => e = .returned (.int .i64 5) ∧ Below w.heap.size w w' :=
  (give_nothing w L fp r _ h.one 2 (by decide) rfl).mono fun _ _ hh => ⟨hh.1, by rw [hh.2]; exact Below.refl _ _⟩
theorem e9 (h : Asked w L fp r g1) : Ret 14 #[.pointer (some ⟨L, 0, none⟩), .string mB] w 5 := gone_err w L fp r _ h.one mB (by decide) 5 (by unfold goneE; rw [look_one, if_neg mB_ne]) (by decide)
theorem e10 (h : Asked w L fp r g1) : Ret 14 #[.pointer (some ⟨L, 0, none⟩), .string nB] w 7 := gone_err w L fp r _ h.one nB nB_small 7 (by unfold goneE; rw [look_one, if_pos rfl]; simp [h.k]) (by decide)
theorem e11 (h : Asked w L fp r g1) : Ret 15 #[.pointer (some ⟨L, 0, none⟩), .agg #[.string nB, .int .i64 2, .int .i64 9, .slice none 0 0, .slice none 0 0, .bool false]] w 6 := put_same w L fp r _ h.one nB 2 9 none 0 0 false [] nB_small ⟨by simp, by simp⟩ rfl SP.none (by intro x hx; cases hx) 6 (by
  unfold putE
  have hl : (look [(nB, r)] nB).getD zrec = r := by rw [look_one, if_pos rfl]; rfl
  rw [node_one 2 9 (by decide) (by decide), hl, h.u]
  simp) (by decide)
theorem e12 (h : Asked w L fp r g1) : Ret 15 #[.pointer (some ⟨L, 0, none⟩), .agg #[.string ⟨#[78]⟩, .int .i64 0, .int .i64 0, .slice none 0 0, .slice none 0 0, .bool false]] w 1 := put_same w L fp r _ h.one ⟨#[78]⟩ 0 0 none 0 0 false [] (by decide) ⟨by simp, by simp⟩ rfl SP.none (by intro x hx; cases hx) 1 (by
  have e : nodeE ⟨#[78]⟩ 0 0 [] [] = 1 := by decide +kernel
  unfold putE
  rw [e]; rfl) (by decide)
theorem e13 (h : Asked w L fp r g1) : Ret 15 #[.pointer (some ⟨L, 0, none⟩), .agg #[.string mB, .int .i64 (-1), .int .i64 0, .slice none 0 0, .slice none 0 0, .bool false]] w 2 := put_same w L fp r _ h.one mB (-1) 0 none 0 0 false [] (by decide) ⟨by simp, by simp⟩ rfl SP.none (by intro x hx; cases hx) 2 (by
  have e : nodeE mB (-1) 0 [] [] = 2 := by decide +kernel
  unfold putE
  rw [e]; rfl) (by decide)

end Go.Proofs.Ytcmgpbdciifdmab
