/- A tape among a call's own blocks; the chapter's example; the rest of a division. -/
import Derived.Test.YtmldpihjndafaabDoorUK
namespace Go.Proofs.YtmldpihjndafaabDoor
open Go.RowKit
set_option linter.unusedSimpArgs false
set_option linter.unusedVariables false

/-- A tape in block T, which lies, as its row does, from block B on. -/
def St (B : Nat) (w : World) (T : Nat) (A L : List ByteArray) (s : Bool) : Prop :=
  ∃ v, IsTape w T v (rowOf A L s) ∧ B ≤ T ∧ (∀ g, v.ownBlock = some g → B ≤ g) ∧ (s = false → A = [])

theorem St.later {B T : Nat} {w w' : World} {A L : List ByteArray} {s : Bool} (h : St B w T A L s) (hb : Below w.heap.size w w') : St B w' T A L s := by
  obtain ⟨v, h1, h2⟩ := h
  exact ⟨v, h1.later hb, h2⟩

theorem St.drew {B T : Nat} {w : World} {A L : List ByteArray} {s : Bool} (h : St B w T A L s) : St B w.drew T A L s := h.later (Below.refl _ _).drew

theorem St.put {B T : Nat} {w w' : World} {A' L' : List ByteArray} {s' : Bool} {v v' : Value} (hB : B ≤ w.heap.size) (hT : B ≤ T) (hv : ∀ g, v.ownBlock = some g → B ≤ g) (h : IsTape w' T v' (rowOf A' L' s')) (hK : KT T v w w') (hn : NewOr w v v') (hs : s' = false → A' = []) : St B w' T A' L' s' ∧ Below B w w' :=
  ⟨⟨v', h, hT, fun g hg => by
    rcases hn g hg with h1 | h1
    · exact hv g h1
    · omega, hs⟩, hK.below hT hv hB⟩

theorem new_st (B : Nat) (w : World) (hB : B ≤ w.heap.size) : Calls Tryd.prog 5 #[] w fun e w' => e = .returned (.pointer (some ⟨w.heap.size, 0, none⟩)) ∧ St B w' w.heap.size [] [] false ∧ Below w.heap.size w w' :=
  (new_any w).mono fun e w' h => ⟨h.1, ⟨_, h.2.1, hB, by simp [Value.ownBlock], fun _ => rfl⟩, h.2.2⟩

theorem write_st (B T : Nat) (w : World) (A L : List ByteArray) (s : Bool) (x0 x1 x2 x3 x4 x5 x6 x7 x8 x9 : Value) (t : ByteArray) (h : St B w T A L s) (hB : B ≤ w.heap.size) (hl : A.length + L.length < 999990)
    (kc : ∀ W, Below w.heap.size w W → Calls Tryd.prog 15 #[.agg #[x0, x1, x2, x3, x4, x5, x6, x7, x8, x9]] W fun e W' => e = .returned (.int .i64 0) ∧ Below W.heap.size W W')
    (kt : ∀ W, Below w.heap.size w W → Calls Tryd.prog 16 #[.agg #[x0, x1, x2, x3, x4, x5, x6, x7, x8, x9]] W fun e W' => e = .returned (.string t) ∧ Below W.heap.size W W') :
    Calls Tryd.prog 6 #[.pointer (some ⟨T, 0, none⟩), .agg #[x0, x1, x2, x3, x4, x5, x6, x7, x8, x9]] w fun e w' => e = .returned (.tuple #[]) ∧ St B w' T A (L ++ [t]) s ∧ Below B w w' := by
  obtain ⟨v, h1, h2, h3, h4⟩ := h
  refine (write_any w T v A L s x0 x1 x2 x3 x4 x5 x6 x7 x8 x9 t h1 hl kc kt).mono ?_
  rintro e w' ⟨he, v', h5, h6, h7⟩
  have := St.put hB h2 h3 h5 h6 h7 h4
  exact ⟨he, this.1, this.2⟩

theorem crash_st (B T : Nat) (w : World) (A L : List ByteArray) (s : Bool) (n : Int) (k : Nat) (h : St B w T A L s) (hB : B ≤ w.heap.size) (hk : (k : Int) = min (max n 0) L.length) (hl : A.length + L.length < 999990) (hn : -9223372036854775808 ≤ n ∧ n ≤ 9223372036854775807) :
    Calls Tryd.prog 11 #[.pointer (some ⟨T, 0, none⟩), .int .i64 n] w fun e w' => e = .returned (.tuple #[]) ∧ St B w' T (A ++ L.take k) [] true ∧ Below B w w' := by
  obtain ⟨v, h1, h2, h3, h4⟩ := h
  refine (crash_any w T v A L s n k h1 h4 hk (by omega) hn).mono ?_
  rintro e w' ⟨he, v', h5, h6, h7⟩
  have := St.put hB h2 h3 h5 h6 h7 (fun e => by cases e)
  exact ⟨he, this.1, this.2⟩

theorem sync_st (B T : Nat) (w : World) (A L : List ByteArray) (s : Bool) (h : St B w T A L s) (hB : B ≤ w.heap.size) (hl : A.length + L.length < 999990) :
    Calls Tryd.prog 8 #[.pointer (some ⟨T, 0, none⟩)] w fun e w' => e = .returned (.tuple #[]) ∧ St B w' T (A ++ L) [] true ∧ Below B w w' := by
  obtain ⟨v, h1, h2, h3, h4⟩ := h
  refine (sync_any w T v A L s h1 h4 (by omega)).mono ?_
  rintro e w' ⟨he, v', h5, h6, h7⟩
  have := St.put hB h2 h3 h5 h6 h7 (fun e => by cases e)
  exact ⟨he, this.1, this.2⟩

theorem lasting_st (B T : Nat) (w : World) (A L : List ByteArray) (s : Bool) (n : Nat) (h : St B w T A L s) (hn : A.length = n) :
    Calls Tryd.prog 10 #[.pointer (some ⟨T, 0, none⟩)] w fun e w' => e = .returned (.int .i64 n) ∧ w' = w := by
  obtain ⟨v, h1, h2, h3, h4⟩ := h
  subst hn
  exact lasting_any w T v A L s h1 h4

theorem lines_st (B T : Nat) (w : World) (A L : List ByteArray) (s : Bool) (n : Nat) (ss : List ByteArray) (h : St B w T A L s) (hs : A ++ L = ss) (hn : ss.length = n) :
    Calls Tryd.prog 9 #[.pointer (some ⟨T, 0, none⟩)] w fun e w' => ∃ a c, e = .returned (.slice a n c) ∧ w'.ownsRow w.heap.size 9 1 (.slice a n c) n (ss.map Value.string) ∧ Below w.heap.size w w' := by
  obtain ⟨v, h1, h2, h3, h4⟩ := h
  subst hs hn
  exact tlines_any w T v A L s h1

theorem all_st (B T : Nat) (w : World) (A L : List ByteArray) (s : Bool) (n : Nat) (rs : List RecB) (h : St B w T A L s) (hn : rs.length = n) (hnl : n = (A ++ L).length) (hp : ∀ i r, rs[i]? = some r → ParseOK ((A ++ L).getD i ByteArray.empty) r) :
    Calls Tryd.prog 14 #[.pointer (some ⟨T, 0, none⟩)] w fun e w' => ∃ a c, ∃ l : List (List Value), e = .returned (.slice a n c) ∧ w'.ownsRow w.heap.size 35 10 (.slice a n c) n l.flatten ∧ l.length = n ∧ (∀ (i : Nat) (r : RecB) (u : List Value), rs[i]? = some r → l[i]? = some u → RecC w' w.heap.size r u) ∧ Below w.heap.size w w' := by
  obtain ⟨v, h1, h2, h3, h4⟩ := h
  subst hn
  exact all_any w T v A L s rs h1 hnl hp

theorem check5 (g : Nat) (W : World) (h1 : 1 ≤ g) (h2 : g ≤ 999999) : Calls Tryd.prog 15 #[.agg #[.int .i64 5, .int .i64 g, .slice none 0 0, .slice none 0 0, .string ⟨#[]⟩, .int .i64 0, .int .i64 0, .slice none 0 0, .slice none 0 0, .bool false]] W fun e W' => e = .returned (.int .i64 0) ∧ Below W.heap.size W W' := by
  have := check_five g W
  rwa [gangE_ok g h1 h2] at this
theorem check4 (g : Nat) (W : World) (h1 : 1 ≤ g) (h2 : g ≤ 999999) : Calls Tryd.prog 15 #[.agg #[.int .i64 4, .int .i64 g, .slice none 0 0, .slice none 0 0, .string ⟨#[]⟩, .int .i64 0, .int .i64 0, .slice none 0 0, .slice none 0 0, .bool false]] W fun e W' => e = .returned (.int .i64 0) ∧ Below W.heap.size W W' := by
  have := check_four g W
  rwa [gangE_ok g h1 h2] at this

/-- Write of a record of a number alone. -/
theorem write5 (B T : Nat) (w : World) (A L : List ByteArray) (s : Bool) (g : Nat) (z : Int) (hz : z = g) (h1 : 1 ≤ g) (h2 : g ≤ 999999) (h : St B w T A L s) (hB : B ≤ w.heap.size) (hl : A.length + L.length < 999990) (hT : TabB B w) :
    Calls Tryd.prog 6 #[.pointer (some ⟨T, 0, none⟩), .agg #[.int .i64 5, .int .i64 z, .slice none 0 0, .slice none 0 0, .string ⟨#[]⟩, .int .i64 0, .int .i64 0, .slice none 0 0, .slice none 0 0, .bool false]] w fun e w' => e = .returned (.tuple #[]) ∧ St B w' T A (L ++ [bs (oneT 5 g)]) s ∧ Below B w w' := by
  subst hz
  exact write_st B T w A L s _ _ _ _ _ _ _ _ _ _ _ h hB hl (fun W _ => check5 g W h1 h2) (fun W hb => text_five g W (by omega) ((hT.later hb hB).up (Nat.le_trans hB hb.size)))
theorem write4 (B T : Nat) (w : World) (A L : List ByteArray) (s : Bool) (g : Nat) (z : Int) (hz : z = g) (h1 : 1 ≤ g) (h2 : g ≤ 999999) (h : St B w T A L s) (hB : B ≤ w.heap.size) (hl : A.length + L.length < 999990) (hT : TabB B w) :
    Calls Tryd.prog 6 #[.pointer (some ⟨T, 0, none⟩), .agg #[.int .i64 4, .int .i64 z, .slice none 0 0, .slice none 0 0, .string ⟨#[]⟩, .int .i64 0, .int .i64 0, .slice none 0 0, .slice none 0 0, .bool false]] w fun e w' => e = .returned (.tuple #[]) ∧ St B w' T A (L ++ [bs (oneT 4 g)]) s ∧ Below B w w' := by
  subst hz
  exact write_st B T w A L s _ _ _ _ _ _ _ _ _ _ _ h hB hl (fun W _ => check4 g W h1 h2) (fun W hb => text_four g W (by omega) ((hT.later hb hB).up (Nat.le_trans hB hb.size)))

theorem abort2 : bs (oneT 5 2) = ⟨#[97, 98, 111, 114, 116, 32, 50]⟩ := by kernel_rfl

set_option maxRecDepth 100000 in
set_option maxHeartbeats 4000000 in
theorem known9_any (w : World) (hT : TabB w.heap.size w) : Calls Tryd.prog 4 #[] w fun e w' => e = .returned (.bool true) ∧ Below w.heap.size w w' := by
  have kn := new_st w.heap.size w (Nat.le_refl _)
  go_enter Tryd.func4, Tryd.ntmps4
  go_wp2_with (first
    | (go_at_call 5; refine kn.mono ?_; rintro e w1 ⟨rfl, h1, hb1⟩)
    | (go_at_call 14; refine (all_st _ _ w1 [] [] false 0 [] h1 rfl rfl (by intro i r hr; simp at hr)).mono ?_; rintro e w2 ⟨a2, c2, l2, rfl, _, _, _, hb2⟩; have h2 := h1.later hb2; have hbw2 := fin hb2 hb1)
    | (go_at_call 6; refine (write5 _ _ w2 [] [] false 2 2 rfl (by decide) (by decide) h2 hbw2.size (by decide) (hT.on hbw2)).mono ?_; rintro e w3 ⟨rfl, h3, hb3⟩; have hbw3 := hbw2.trans hb3)
    | (go_at_call 9; refine (lines_st _ _ w3 [] _ false 1 [bs (oneT 5 2)] h3 rfl rfl).mono ?_; rintro e w4 ⟨a4, c4, rfl, ho4, hb4⟩; have h4 := h3.later hb4; have hbw4 := fin hb4 hbw3; obtain ⟨x, rfl, hx⟩ := Ln.of ho4 rfl 0 (by decide); have hx0 : w4.cell? x = some (.string ⟨#[97, 98, 111, 114, 116, 32, 50]⟩) := (by rw [abort2] at hx; simpa [Addr.add] using hx))
    | (go_at_call 10; refine (lasting_st _ _ w4 [] _ false 0 h4 rfl).mono ?_; rintro e w5 ⟨rfl, rfl⟩))
  go_ret
  exact ⟨rfl, hbw4⟩

end Go.Proofs.YtmldpihjndafaabDoor
