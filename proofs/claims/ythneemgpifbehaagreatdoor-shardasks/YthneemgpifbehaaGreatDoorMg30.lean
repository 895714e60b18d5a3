/- A shard in memory: its own block, its tape, its ledger, its two maps, the rows of peers; each block has one owner. -/
import Derived.Test.YthneemgpifbehaaGreatDoorMg06
import Derived.Test.YthneemgpifbehaaGreatDoorMg14
import Derived.Test.YthneemgpifbehaaGreatDoorMg24
import Derived.Test.YthneemgpifbehaaGreatDoorMg29
import Derived.Test.YthneemgpifbehaaGreatDoorMg31
import Derived.Test.YthneemgpifbehaaGreatDoorMg27
namespace Go.Proofs.YthneemgpifbehaaGreatDoor
open Go.RowKit Go.Maps
set_option linter.unusedSimpArgs false
set_option linter.unusedVariables false

/-- What a node is. -/
abbrev Core := ByteArray × Int × Int × List ByteArray × List ByteArray × Bool
def recOf (c : Core) : Rec := ⟨c.1, c.2.1, c.2.2.1, none, 0, c.2.2.2.1, none, 0, c.2.2.2.2.1, c.2.2.2.2.2, 0, 0, 0⟩
theorem recOf_core (c : Core) : (recOf c).core = c := rfl
/-- A ledger, by what its nodes are. -/
def LedG (w : World) (L : Nat) (fp : Nat → Prop) (C : List Core) (G : List (Int × Grp)) : Prop := ∃ E, Led w L fp E G ∧ E.map (fun e => e.2.core) = C
theorem LedG.frame {w w' : World} {L : Nat} {fp : Nat → Prop} {C : List Core} {G : List (Int × Grp)} (h : LedG w L fp C G) (hk : ∀ b, fp b → w'.heap[b]? = w.heap[b]?) (hs : w.heap.size ≤ w'.heap.size) : LedG w' L fp C G := h.elim fun E h => ⟨E, h.1.frame hk hs, h.2⟩
theorem LedG.later {w w' : World} {L : Nat} {fp : Nat → Prop} {C : List Core} {G : List (Int × Grp)} (h : LedG w L fp C G) (hb : Below w.heap.size w w') : LedG w' L fp C G := h.elim fun E h => ⟨E, h.1.later hb, h.2⟩
theorem LedG.lt {w : World} {L : Nat} {fp : Nat → Prop} {C : List Core} {G : List (Int × Grp)} (h : LedG w L fp C G) : ∀ b, fp b → b < w.heap.size := h.elim fun E h => h.1.lt

/-- What a shard has. -/
structure ShS where
  me : Int
  mode : Int
  A : List ByteArray
  L : List ByteArray
  s : Bool
  C : List Core
  G : List (Int × Grp)
  U : List (Int × Und)
  D : List (Int × Int)

/-- The rows of what is undecided are there. -/
def Und.Ok (w : World) (P : Nat → Prop) : Und → Prop
  | .held _ => True
  | .prep _ a c ps => Nats w a ps ∧ ps.length ≤ c ∧ ps.length ≤ 4 ∧ ∀ y, a = some y → ps ≠ [] → P y.block

theorem Nats.frame {w w' : World} {a : Option Addr} {ps : List Nat} (h : Nats w a ps) (hk : ∀ y, a = some y → ps ≠ [] → w'.heap[y.block]? = w.heap[y.block]?) : Nats w' a ps := fun i hi => by
  obtain ⟨x, hx, hc⟩ := h i hi
  refine ⟨x, hx, ?_⟩
  rw [← hc]
  exact World.cell?_of_block (by rw [add_block]; exact hk x hx (by intro e; simp [e] at hi))
theorem Und.Ok.frame {w w' : World} {P : Nat → Prop} {z : Und} (h : z.Ok w P) (hk : ∀ b, P b → w'.heap[b]? = w.heap[b]?) : z.Ok w' P := by
  cases z with
  | held n => trivial
  | prep age a c ps => exact ⟨h.1.frame fun y hy hn => hk _ (h.2.2.2 y hy hn), h.2.1, h.2.2.1, h.2.2.2⟩
theorem Und.Ok.wide {w : World} {P Q : Nat → Prop} {z : Und} (h : z.Ok w P) (hk : ∀ b, P b → Q b) : z.Ok w Q := by
  cases z with
  | held n => trivial
  | prep age a c ps => exact ⟨h.1, h.2.1, h.2.2.1, fun y hy hn => hk _ (h.2.2.2 y hy hn)⟩

theorem own_frame {w w' : World} {base : Nat} {t : TypeId} {z : Nat} {v : Value} {n : Nat} {xs : List Value} (h : w.ownsRow base t z v n xs) (hk : ∀ g, v.ownBlock = some g → w'.heap[g]? = w.heap[g]?) : w'.ownsRow base t z v n xs := by
  refine ⟨h.1, ?_⟩
  rcases h.2 with hn | ⟨g, cap, cur, rfl, hb, hgg, rest⟩
  · exact .inl hn
  · exact .inr ⟨g, cap, cur, rfl, hb, by rw [hk g rfl]; exact hgg, rest⟩
theorem IsTape.frame {w w' : World} {T : Nat} {v : Value} {r : List TC} (h : IsTape w T v r) (hT : w'.heap[T]? = w.heap[T]?) (hk : ∀ g, v.ownBlock = some g → w'.heap[g]? = w.heap[g]?) : IsTape w' T v r :=
  ⟨by have := h.box; unfold Box at this ⊢; rw [hT]; exact this, own_frame h.row hk, h.ne, h.len⟩

/-- A shard in block S, by its parts; who owns which block: 1 the shard, 2 the tape, 3 the ledger, 4 and 5 the maps, 6 the rows. -/
structure ShP (w : World) (S T Lg u d : Nat) (v : Value) (col : Nat → Nat) (x : ShS) : Prop where
  box : Box w S #[.int .i64 x.me, .int .i64 x.mode, .pointer (some ⟨T, 0, none⟩), .pointer (some ⟨Lg, 0, none⟩), .map (some u), .map (some d)] 91
  tp : IsTape w T v (rowOf x.A x.L x.s)
  ts : x.s = false → x.A = []
  led : LedG w Lg (fun b => col b = 3) x.C x.G
  und : MOwn Und.val w u x.U
  dec : MOwn dval w d x.D
  ok : ∀ e ∈ x.U, e.2.Ok w (fun b => col b = 6)
  cS : col S = 1
  cT : col T = 2
  cv : ∀ g, v.ownBlock = some g → col g = 2
  cu : col u = 4
  cd : col d = 5
  lt : ∀ b, col b ≠ 0 → b < w.heap.size

/-- The blocks that somebody owns. -/
def inC (col : Nat → Nat) : Nat → Prop := fun b => col b ≠ 0
/-- A shard in block S, its tape in T, in these blocks. -/
def IsS (w : World) (S T : Nat) (fp : Nat → Prop) (x : ShS) : Prop := ∃ Lg u d v col, fp = inC col ∧ ShP w S T Lg u d v col x

section
variable {w w' : World} {S T Lg u d : Nat} {v : Value} {col : Nat → Nat} {x : ShS}

theorem ShP.frame (h : ShP w S T Lg u d v col x) (hs : w.heap.size ≤ w'.heap.size) (hk : ∀ b, col b ≠ 0 → w'.heap[b]? = w.heap[b]?) : ShP w' S T Lg u d v col x where
  box := by have := h.box; unfold Box at this ⊢; rw [hk S (by rw [h.cS]; decide)]; exact this
  tp := h.tp.frame (hk T (by rw [h.cT]; decide)) fun g hg => hk g (by rw [h.cv g hg]; decide)
  ts := h.ts
  led := h.led.frame (fun b hb => hk b (by rw [hb]; decide)) hs
  und := h.und.kept (hk u (by rw [h.cu]; decide))
  dec := h.dec.kept (hk d (by rw [h.cd]; decide))
  ok := fun e he => (h.ok e he).frame fun b hb => hk b (by rw [hb]; decide)
  cS := h.cS
  cT := h.cT
  cv := h.cv
  cu := h.cu
  cd := h.cd
  lt := fun b hb => Nat.lt_of_lt_of_le (h.lt b hb) hs
theorem ShP.later (h : ShP w S T Lg u d v col x) (hb : Below w.heap.size w w') : ShP w' S T Lg u d v col x := h.frame hb.size fun b hc => hb.block b (h.lt b hc)

/-- The tape turned. -/
theorem ShP.tape (h : ShP w S T Lg u d v col x) {v' : Value} {A' L' : List ByteArray} {s' : Bool} (ht : IsTape w' T v' (rowOf A' L' s')) (hs : s' = false → A' = []) (hK : KT T v w w') (hn : NewOr w v v') :
    ∃ col', ShP w' S T Lg u d v' col' { x with A := A', L := L', s := s' } ∧ Turn w w' (inC col) (inC col') := by
  classical
  have hkeep : ∀ b, col b ≠ 0 → col b ≠ 2 → w'.heap[b]? = w.heap[b]? := fun b h0 h2 => hK.block b (h.lt b h0) (fun e => h2 (by rw [e]; exact h.cT)) (fun e => h2 (h.cv b e))
  have hne : ∀ b, col b ≠ 0 → ¬ w.heap.size ≤ b := fun b h0 => by have := h.lt b h0; omega
  refine ⟨fun b => if w.heap.size ≤ b ∧ v'.ownBlock = some b then 2 else col b, ?_, ?_⟩
  · have old : ∀ b, col b ≠ 0 → (if w.heap.size ≤ b ∧ v'.ownBlock = some b then 2 else col b) = col b := fun b h0 => if_neg fun e => hne b h0 e.1
    have eq : ∀ c b, c ≠ 2 → c ≠ 0 → ((if w.heap.size ≤ b ∧ v'.ownBlock = some b then 2 else col b) = c ↔ col b = c) := fun c b h2 h0 => by
      constructor
      · intro e
        split at e
        · exact absurd e.symm h2
        · exact e
      · intro e
        rw [old b (by rw [e]; exact h0), e]
    exact {
      box := by have := h.box; unfold Box at this ⊢; rw [hkeep S (by rw [h.cS]; decide) (by rw [h.cS]; decide)]; exact this
      tp := ht
      ts := hs
      led := by
        have e3 : (fun b => (if w.heap.size ≤ b ∧ v'.ownBlock = some b then 2 else col b) = 3) = fun b => col b = 3 := funext fun b => propext (eq 3 b (by decide) (by decide))
        rw [e3]
        exact h.led.frame (fun b hb => hkeep b (by rw [hb]; decide) (by rw [hb]; decide)) hK.size
      und := h.und.kept (hkeep u (by rw [h.cu]; decide) (by rw [h.cu]; decide))
      dec := h.dec.kept (hkeep d (by rw [h.cd]; decide) (by rw [h.cd]; decide))
      ok := fun e he => ((h.ok e he).frame fun b hb => hkeep b (by rw [hb]; decide) (by rw [hb]; decide)).wide fun b hb => (eq 6 b (by decide) (by decide)).2 hb
      cS := by rw [old S (by rw [h.cS]; decide)]; exact h.cS
      cT := by rw [old T (by rw [h.cT]; decide)]; exact h.cT
      cv := fun g hg => by
        by_cases hz : w.heap.size ≤ g
        · exact if_pos ⟨hz, hg⟩
        · rw [if_neg fun e => hz e.1]
          rcases hn g hg with h1 | h1
          · exact h.cv g h1
          · exact absurd h1 hz
      cu := by rw [old u (by rw [h.cu]; decide)]; exact h.cu
      cd := by rw [old d (by rw [h.cd]; decide)]; exact h.cd
      lt := fun b hb => by
        by_cases hc : w.heap.size ≤ b ∧ v'.ownBlock = some b
        · rcases ht.row.2 with ⟨e, _⟩ | ⟨g, cap, cur, e, _, hgg, _⟩
          · rw [e] at hc; cases hc.2
          · rw [e] at hc
            have : g = b := by simpa [Value.ownBlock] using hc.2
            subst this
            exact (Array.getElem?_eq_some_iff.1 hgg).1
        · rw [if_neg hc] at hb
          exact Nat.lt_of_lt_of_le (h.lt b hb) hK.size }
  · refine ⟨fun b hb => ?_, fun b hb => ?_, ⟨hK.os, hK.tape, hK.output, hK.size, fun k hk hn => hK.block k hk (fun e => hn (by unfold inC; rw [e, h.cT]; decide)) (fun e => hn (by unfold inC; rw [h.cv k e]; decide))⟩⟩
    · simp only [inC] at hb ⊢
      rw [if_neg fun e => hne b hb e.1]
      exact hb
    · simp only [inC] at hb ⊢
      by_cases hc : w.heap.size ≤ b ∧ v'.ownBlock = some b
      · exact .inr hc.1
      · rw [if_neg hc] at hb
        exact .inl hb

/-- The ledger turned. -/
theorem ShP.ledger (h : ShP w S T Lg u d v col x) {C' : List Core} {G' : List (Int × Grp)} {fp' : Nat → Prop} (hL : LedG w' Lg fp' C' G') (hT : Turn w w' (fun b => col b = 3) fp') :
    ∃ col', ShP w' S T Lg u d v col' { x with C := C', G := G' } ∧ Turn w w' (inC col) (inC col') := by
  classical
  have hkeep : ∀ b, col b ≠ 0 → col b ≠ 3 → w'.heap[b]? = w.heap[b]? := fun b h0 h2 => hT.kept.block b (h.lt b h0) h2
  have hne : ∀ b, col b ≠ 0 → ¬ w.heap.size ≤ b := fun b h0 => by have := h.lt b h0; omega
  have hz := hT.kept.size
  refine ⟨fun b => if w.heap.size ≤ b ∧ fp' b then 3 else col b, ?_, ?_⟩
  · have old : ∀ b, col b ≠ 0 → (if w.heap.size ≤ b ∧ fp' b then 3 else col b) = col b := fun b h0 => if_neg fun e => hne b h0 e.1
    have eq : ∀ c b, c ≠ 3 → c ≠ 0 → ((if w.heap.size ≤ b ∧ fp' b then 3 else col b) = c ↔ col b = c) := fun c b h2 h0 => by
      constructor
      · intro e
        split at e
        · exact absurd e.symm h2
        · exact e
      · intro e
        rw [old b (by rw [e]; exact h0), e]
    have e3 : (fun b => (if w.heap.size ≤ b ∧ fp' b then 3 else col b) = 3) = fp' := funext fun b => propext (by
      constructor
      · intro e
        split at e
        · rename_i hc; exact hc.2
        · exact hT.more b e
      · intro e
        rcases hT.new b e with h1 | h1
        · rw [old b (by rw [h1]; decide)]; exact h1
        · exact if_pos ⟨h1, e⟩)
    exact {
      box := by have := h.box; unfold Box at this ⊢; rw [hkeep S (by rw [h.cS]; decide) (by rw [h.cS]; decide)]; exact this
      tp := h.tp.frame (hkeep T (by rw [h.cT]; decide) (by rw [h.cT]; decide)) fun g hg => hkeep g (by rw [h.cv g hg]; decide) (by rw [h.cv g hg]; decide)
      ts := h.ts
      led := by rw [e3]; exact hL
      und := h.und.kept (hkeep u (by rw [h.cu]; decide) (by rw [h.cu]; decide))
      dec := h.dec.kept (hkeep d (by rw [h.cd]; decide) (by rw [h.cd]; decide))
      ok := fun e he => ((h.ok e he).frame fun b hb => hkeep b (by rw [hb]; decide) (by rw [hb]; decide)).wide fun b hb => (eq 6 b (by decide) (by decide)).2 hb
      cS := by rw [old S (by rw [h.cS]; decide)]; exact h.cS
      cT := by rw [old T (by rw [h.cT]; decide)]; exact h.cT
      cv := fun g hg => by rw [old g (by rw [h.cv g hg]; decide)]; exact h.cv g hg
      cu := by rw [old u (by rw [h.cu]; decide)]; exact h.cu
      cd := by rw [old d (by rw [h.cd]; decide)]; exact h.cd
      lt := fun b hb => by
        by_cases hc : w.heap.size ≤ b ∧ fp' b
        · exact hL.lt b hc.2
        · rw [if_neg hc] at hb
          exact Nat.lt_of_lt_of_le (h.lt b hb) hz }
  · refine ⟨fun b hb => ?_, fun b hb => ?_, hT.kept.wide fun b hb => by unfold inC; rw [hb]; decide⟩
    · simp only [inC] at hb ⊢
      rw [if_neg fun e => hne b hb e.1]
      exact hb
    · simp only [inC] at hb ⊢
      by_cases hc : w.heap.size ≤ b ∧ fp' b
      · exact .inr hc.1
      · rw [if_neg hc] at hb
        exact .inl hb

/-- The map of what is undecided turned. -/
theorem ShP.mapU (h : ShP w S T Lg u d v col x) {U' : List (Int × Und)} (hM : MOwn Und.val w' u U') (hg : w.grownBy w' (some u)) (hok : ∀ e ∈ U', e.2.Ok w (fun b => col b = 6)) :
    ShP w' S T Lg u d v col { x with U := U' } ∧ Turn w w' (inC col) (inC col) := by
  have hkeep : ∀ b, col b ≠ 0 → col b ≠ 4 → w'.heap[b]? = w.heap[b]? := fun b h0 h2 => hg.block b (h.lt b h0) (fun e => h2 (by cases e; exact h.cu))
  refine ⟨{
      box := by have := h.box; unfold Box at this ⊢; rw [hkeep S (by rw [h.cS]; decide) (by rw [h.cS]; decide)]; exact this
      tp := h.tp.frame (hkeep T (by rw [h.cT]; decide) (by rw [h.cT]; decide)) fun g hg => hkeep g (by rw [h.cv g hg]; decide) (by rw [h.cv g hg]; decide)
      ts := h.ts
      led := h.led.frame (fun b hb => hkeep b (by rw [hb]; decide) (by rw [hb]; decide)) hg.size
      und := hM
      dec := h.dec.kept (hkeep d (by rw [h.cd]; decide) (by rw [h.cd]; decide))
      ok := fun e he => (hok e he).frame fun b hb => hkeep b (by rw [hb]; decide) (by rw [hb]; decide)
      cS := h.cS
      cT := h.cT
      cv := h.cv
      cu := h.cu
      cd := h.cd
      lt := fun b hb => Nat.lt_of_lt_of_le (h.lt b hb) hg.size }, ⟨fun _ h => h, fun _ h => .inl h, .of_grown hg (by unfold inC; rw [h.cu]; decide)⟩⟩
/-- The map of what is decided turned. -/
theorem ShP.mapD (h : ShP w S T Lg u d v col x) {D' : List (Int × Int)} (hM : MOwn dval w' d D') (hg : w.grownBy w' (some d)) :
    ShP w' S T Lg u d v col { x with D := D' } ∧ Turn w w' (inC col) (inC col) := by
  have hkeep : ∀ b, col b ≠ 0 → col b ≠ 5 → w'.heap[b]? = w.heap[b]? := fun b h0 h2 => hg.block b (h.lt b h0) (fun e => h2 (by cases e; exact h.cd))
  refine ⟨{
      box := by have := h.box; unfold Box at this ⊢; rw [hkeep S (by rw [h.cS]; decide) (by rw [h.cS]; decide)]; exact this
      tp := h.tp.frame (hkeep T (by rw [h.cT]; decide) (by rw [h.cT]; decide)) fun g hg => hkeep g (by rw [h.cv g hg]; decide) (by rw [h.cv g hg]; decide)
      ts := h.ts
      led := h.led.frame (fun b hb => hkeep b (by rw [hb]; decide) (by rw [hb]; decide)) hg.size
      und := h.und.kept (hkeep u (by rw [h.cu]; decide) (by rw [h.cu]; decide))
      dec := hM
      ok := fun e he => (h.ok e he).frame fun b hb => hkeep b (by rw [hb]; decide) (by rw [hb]; decide)
      cS := h.cS
      cT := h.cT
      cv := h.cv
      cu := h.cu
      cd := h.cd
      lt := fun b hb => Nat.lt_of_lt_of_le (h.lt b hb) hg.size }, ⟨fun _ h => h, fun _ h => .inl h, .of_grown hg (by unfold inC; rw [h.cd]; decide)⟩⟩
/-- A block that nobody owned, for a row. -/
theorem ShP.row (h : ShP w S T Lg u d v col x) (g : Nat) (h0 : col g = 0) (hg : g < w.heap.size) : ShP w S T Lg u d v (fun b => if b = g then 6 else col b) x := by
  have old : ∀ b, col b ≠ 0 → (if b = g then 6 else col b) = col b := fun b hb => if_neg fun e => hb (by rw [e]; exact h0)
  have eq : ∀ c b, c ≠ 6 → c ≠ 0 → ((if b = g then 6 else col b) = c ↔ col b = c) := fun c b h2 h0 => by
    constructor
    · intro e
      split at e
      · exact absurd e.symm h2
      · exact e
    · intro e
      rw [old b (by rw [e]; exact h0), e]
  exact {
    box := h.box
    tp := h.tp
    ts := h.ts
    led := by
      have e3 : (fun b => (if b = g then 6 else col b) = 3) = fun b => col b = 3 := funext fun b => propext (eq 3 b (by decide) (by decide))
      rw [e3]; exact h.led
    und := h.und
    dec := h.dec
    ok := fun e he => (h.ok e he).wide fun b hb => by rw [old b (by rw [hb]; decide)]; exact hb
    cS := by rw [old S (by rw [h.cS]; decide)]; exact h.cS
    cT := by rw [old T (by rw [h.cT]; decide)]; exact h.cT
    cv := fun y hy => by rw [old y (by rw [h.cv y hy]; decide)]; exact h.cv y hy
    cu := by rw [old u (by rw [h.cu]; decide)]; exact h.cu
    cd := by rw [old d (by rw [h.cd]; decide)]; exact h.cd
    lt := fun b hb => by
      by_cases e : b = g
      · rw [e]; exact hg
      · rw [if_neg e] at hb; exact h.lt b hb }
end

section
variable {w w' w'' : World} {S T : Nat} {fp fp' fp'' : Nat → Prop} {x : ShS}
theorem Turn.trans (h : Turn w w' fp fp') (h' : Turn w' w'' fp' fp'') : Turn w w'' fp fp'' :=
  ⟨fun b hb => h'.more b (h.more b hb), fun b hb => (h'.new b hb).elim (h.new b) (fun hz => .inr (Nat.le_trans h.kept.size hz)), h.kept.trans' h'.kept h.new⟩
theorem IsS.later (h : IsS w S T fp x) (hb : Below w.heap.size w w') : IsS w' S T fp x := by
  obtain ⟨Lg, u, d, v, col, e, h⟩ := h
  exact ⟨Lg, u, d, v, col, e, h.later hb⟩
theorem IsS.lt (h : IsS w S T fp x) : ∀ b, fp b → b < w.heap.size := by
  obtain ⟨Lg, u, d, v, col, rfl, h⟩ := h
  exact h.lt
end

end Go.Proofs.YthneemgpifbehaaGreatDoor

/- A shard: open, State, Places, Used, Nodes. -/
namespace Go.Proofs.YthneemgpifbehaaGreatDoor
open Go.RowKit Go.Maps
set_option linter.unusedSimpArgs false
set_option linter.unusedVariables false

theorem ta_held (n : Int) (w : World) : (Instr.typeAssert (.iface 97 (.int .i64 n)) 20 97 true).run Tryz.prog w = .ok (.tuple #[.int .i64 n, .bool true]) w := by kernel_rfl
theorem ta_held_no (p : Value) (w : World) : (Instr.typeAssert (.iface 115 p) 20 97 true).run Tryz.prog w = .ok (.tuple #[.int .i64 0, .bool false]) w := by kernel_rfl
theorem ta_prep (p : Value) (w : World) : (Instr.typeAssert (.iface 115 p) 20 115 true).run Tryz.prog w = .ok (.tuple #[p, .bool true]) w := by kernel_rfl

/-- How far a gang has come. -/
def Und.state : Und → Int
  | .held _ => 1
  | .prep _ _ _ _ => 2
def stateS (x : ShS) (g : Int) : Int := match look x.U g with
  | some z => z.state
  | none => (look x.D g).getD 0

section
variable {w : World} {S T : Nat} {fp : Nat → Prop} {x : ShS}

set_option maxRecDepth 100000 in
theorem qopen_any (h : IsS w S T fp x) : Calls Tryz.prog 49 #[.pointer (some ⟨S, 0, none⟩)] w fun e w' => e = .returned (.tuple #[]) ∧ w' = w := by
  obtain ⟨Lg, u, d, v, col, rfl, h⟩ := h
  have c2 : w.cell? ⟨S, 2, none⟩ = some (.pointer (some ⟨T, 0, none⟩)) := h.box.cell rfl
  clear h
  go_enter Tryz.func49, Tryz.ntmps49
  go_wp2
  go_end0
  exact ⟨rfl, rfl⟩

set_option maxRecDepth 100000 in
set_option maxHeartbeats 1000000 in
theorem qstate_any (h : IsS w S T fp x) (g : Int) (hg : (Lit.int .i64 g).wf = true) : Calls Tryz.prog 16 #[.pointer (some ⟨S, 0, none⟩), .int .i64 g] w fun e w' => e = .returned (.int .i64 (stateS x g)) ∧ w' = w := by
  obtain ⟨Lg, u, d, v, col, rfl, h⟩ := h
  have c4 : w.cell? ⟨S, 4, none⟩ = some (.map (some u)) := h.box.cell rfl
  have c5 : w.cell? ⟨S, 5, none⟩ = some (.map (some d)) := h.box.cell rfl
  have l4 := h.und.look2 .nilIface Tryz.underlying88 (zero_any w) g hg
  have l5 := h.dec.look1 (.int .i64 0) Tryz.underlying89 (zero_int w) g hg
  obtain ⟨r, hr⟩ : ∃ r, stateS x g = r := ⟨_, rfl⟩
  rw [hr]
  unfold stateS at hr
  cases hl : look x.U g with
  | none =>
    rw [hl] at l4 hr
    simp only [Option.map_none, Option.getD_none, Option.isSome_none] at l4
    have e5 : ((look x.D g).map dval).getD (.int .i64 0) = .int .i64 r := by
      rw [← hr]
      cases look x.D g <;> rfl
    rw [e5] at l5
    clear h hl hr e5
    go_enter Tryz.func16, Tryz.ntmps16
    go_wp2
    go_ret
    exact ⟨rfl, rfl⟩
  | some z =>
    rw [hl] at l4 hr
    simp only [Option.map_some, Option.getD_some, Option.isSome_some] at l4
    subst hr
    cases z with
    | held n =>
      have t1 := fun W => ta_held n W
      simp only [Und.val] at l4
      clear h hl l5
      go_enter Tryz.func16, Tryz.ntmps16
      go_wp2
      go_ret
      exact ⟨rfl, rfl⟩
    | prep age a c ps =>
      have t1 := fun W => ta_held_no (.agg #[.int .i64 age, .slice a ps.length c]) W
      simp only [Und.val] at l4
      clear h hl l5
      go_enter Tryz.func16, Tryz.ntmps16
      go_wp2
      go_ret
      exact ⟨rfl, rfl⟩

set_option maxRecDepth 100000 in
theorem qplaces_any (h : IsS w S T fp x) (g : Int) (hg : (Lit.int .i64 g).wf = true) (ps : List Pl) (n : Nat) (hps : ((look x.G g).getD zgrp).ps = ps) (hn : ps.length = n) :
    Calls Tryz.prog 29 #[.pointer (some ⟨S, 0, none⟩), .int .i64 g] w fun e w' => ∃ a c, e = .returned (.slice a n c) ∧ Pls w' a ps ∧ SP a ∧ (∀ x, a = some x → w.heap.size ≤ x.block ∧ x.block < w'.heap.size) ∧ n ≤ c ∧ Below w.heap.size w w' := by
  have k0 := qopen_any h
  obtain ⟨Lg, u, d, v, col, rfl, h⟩ := h
  have c3 : w.cell? ⟨S, 3, none⟩ = some (.pointer (some ⟨Lg, 0, none⟩)) := h.box.cell rfl
  obtain ⟨E, hE, _⟩ := h.led
  have k1 := placesL w Lg _ E x.G hE g hg ps n hps hn
  clear h hE hps hn
  go_enter Tryz.func29, Tryz.ntmps29
  go_wp2_with (first
    | (go_at_call 49; refine k0.mono ?_; rintro e w1 ⟨rfl, rfl⟩)
    | (go_at_call 68; refine k1.mono ?_; rintro e w2 ⟨a, c, rfl, h2⟩))
  go_ret
  exact ⟨a, c, rfl, h2⟩

set_option maxRecDepth 100000 in
theorem qused_any (h : IsS w S T fp x) (s : ByteArray) (hs : s.size ≤ maxLen) :
    Calls Tryz.prog 26 #[.pointer (some ⟨S, 0, none⟩), .string s] w fun e w' => e = .returned (.tuple #[.agg #[.int .i64 (gW (·.cpu) s x.G), .int .i64 (gW (·.mem) s x.G)], .int .i64 (gW (fun _ => 1) s x.G)]) ∧ Below w.heap.size w w' := by
  have k0 : ∀ o, Calls Tryz.prog 49 #[.pointer (some ⟨S, 0, none⟩)] (w.alloc o) fun e w' => e = .returned (.tuple #[]) ∧ w' = w.alloc o := fun o => qopen_any (h.later (up (Below.refl _ _) o))
  obtain ⟨Lg, u, d, v, col, rfl, h⟩ := h
  have c3 : w.cell? ⟨S, 3, none⟩ = some (.pointer (some ⟨Lg, 0, none⟩)) := h.box.cell rfl
  have c3a := fun o => cell_alloc c3 o
  obtain ⟨E, hE, _⟩ := h.led
  have k1 := fun o => usedL (w.alloc o) Lg _ E x.G (hE.later (up (Below.refl _ _) o)) s hs
  clear h hE
  go_enter Tryz.func26, Tryz.ntmps26
  go_wp2_with (first
    | (go_at_call 49; refine (k0 _).mono ?_; rintro e w1 ⟨rfl, rfl⟩)
    | (go_at_call 62; refine (k1 _).mono ?_; rintro e w2 ⟨rfl, hb2⟩
       have q2 := (Box.new w #[.int .i64 0, .int .i64 0] 52 rfl).later hb2
       have hW := fin hb2 (up (Below.refl w.heap.size w) _)
       obtain ⟨q0, q1⟩ := q2.cells2
       have qf := q2.frozen))
  have q3 := (q2.set 0 (.int .i64 (gW (·.cpu) s x.G))).set 1 (.int .i64 (gW (·.mem) s x.G))
  obtain ⟨r0, r1⟩ := q3.cells2
  refine bodyPost_ret (by simp [results, Tryz.results26, go_sem, r0, r1]) rfl ⟨rfl, ?_⟩
  exact (hW.setCell (p := ⟨w.heap.size, _, none⟩) (Nat.le_refl _) _).setCell (p := ⟨w.heap.size, _, none⟩) (Nat.le_refl _) _
end

end Go.Proofs.YthneemgpifbehaaGreatDoor

/- A shard: record, decide. -/
namespace Go.Proofs.YthneemgpifbehaaGreatDoor
open Go.RowKit Go.Maps
set_option linter.unusedSimpArgs false
set_option linter.unusedVariables false

section
variable {w : World} {S T Lg u d : Nat} {v : Value} {col : Nat → Nat} {x : ShS}
theorem ShP.c0 (h : ShP w S T Lg u d v col x) : w.cell? ⟨S, 0, none⟩ = some (.int .i64 x.me) := h.box.cell rfl
theorem ShP.c1 (h : ShP w S T Lg u d v col x) : w.cell? ⟨S, 1, none⟩ = some (.int .i64 x.mode) := h.box.cell rfl
theorem ShP.c2 (h : ShP w S T Lg u d v col x) : w.cell? ⟨S, 2, none⟩ = some (.pointer (some ⟨T, 0, none⟩)) := h.box.cell rfl
theorem ShP.c3 (h : ShP w S T Lg u d v col x) : w.cell? ⟨S, 3, none⟩ = some (.pointer (some ⟨Lg, 0, none⟩)) := h.box.cell rfl
theorem ShP.c4 (h : ShP w S T Lg u d v col x) : w.cell? ⟨S, 4, none⟩ = some (.map (some u)) := h.box.cell rfl
theorem ShP.c5 (h : ShP w S T Lg u d v col x) : w.cell? ⟨S, 5, none⟩ = some (.map (some d)) := h.box.cell rfl

theorem sync_sh (h : ShP w S T Lg u d v col x) (hl : x.A.length + x.L.length < 999990) :
    Calls Tryz.prog 23 #[.pointer (some ⟨T, 0, none⟩)] w fun e w' => e = .returned (.tuple #[]) ∧ ∃ v' col', ShP w' S T Lg u d v' col' { x with A := x.A ++ x.L, L := [], s := true } ∧ Turn w w' (inC col) (inC col') := by
  refine (sync_any w T v x.A x.L x.s h.tp h.ts (by omega)).mono ?_
  rintro e w' ⟨he, v', h5, h6, h7⟩
  obtain ⟨col', h8, h9⟩ := h.tape h5 (fun e => by cases e) h6 h7
  exact ⟨he, v', col', h8, h9⟩
theorem write_sh (h : ShP w S T Lg u d v col x) (hl : x.A.length + x.L.length < 999990) (x0 x1 x2 x3 x4 x5 x6 x7 x8 x9 : Value) (t : ByteArray)
    (kc : ∀ W, Below w.heap.size w W → Calls Tryz.prog 50 #[.agg #[x0, x1, x2, x3, x4, x5, x6, x7, x8, x9]] W fun e W' => e = .returned (.int .i64 0) ∧ Below W.heap.size W W')
    (kt : ∀ W, Below w.heap.size w W → Calls Tryz.prog 59 #[.agg #[x0, x1, x2, x3, x4, x5, x6, x7, x8, x9]] W fun e W' => e = .returned (.string t) ∧ Below W.heap.size W W') :
    Calls Tryz.prog 22 #[.pointer (some ⟨T, 0, none⟩), .agg #[x0, x1, x2, x3, x4, x5, x6, x7, x8, x9]] w fun e w' => e = .returned (.tuple #[]) ∧ ∃ v' col', ShP w' S T Lg u d v' col' { x with L := x.L ++ [t] } ∧ Turn w w' (inC col) (inC col') := by
  refine (write_any w T v x.A x.L x.s x0 x1 x2 x3 x4 x5 x6 x7 x8 x9 t h.tp hl kc kt).mono ?_
  rintro e w' ⟨he, v', h5, h6, h7⟩
  obtain ⟨col', h8, h9⟩ := h.tape h5 h.ts h6 h7
  exact ⟨he, v', col', h8, h9⟩
end

/-- A record is written; forced, it lasts. -/
def recS (x : ShS) (t : ByteArray) : Bool → ShS
  | true => { x with A := x.A ++ (x.L ++ [t]), L := [], s := true }
  | false => { x with L := x.L ++ [t] }

section
variable {w : World} {S T : Nat} {fp : Nat → Prop} {x : ShS}

set_option maxRecDepth 100000 in
set_option maxHeartbeats 2000000 in
theorem qrecord_any (h : IsS w S T fp x) (hl : x.A.length + x.L.length < 999980) (x0 x1 x2 x3 x4 x5 x6 x7 x8 x9 : Value) (t : ByteArray) (f : Bool)
    (kc : ∀ W, Below w.heap.size w W → Calls Tryz.prog 50 #[.agg #[x0, x1, x2, x3, x4, x5, x6, x7, x8, x9]] W fun e W' => e = .returned (.int .i64 0) ∧ Below W.heap.size W W')
    (kt : ∀ W, Below w.heap.size w W → Calls Tryz.prog 59 #[.agg #[x0, x1, x2, x3, x4, x5, x6, x7, x8, x9]] W fun e W' => e = .returned (.string t) ∧ Below W.heap.size W W') :
    Calls Tryz.prog 61 #[.pointer (some ⟨S, 0, none⟩), .agg #[x0, x1, x2, x3, x4, x5, x6, x7, x8, x9], .bool f] w fun e w' => e = .returned (.tuple #[]) ∧ ∃ fp', IsS w' S T fp' (recS x t f) ∧ Turn w w' fp fp' := by
  obtain ⟨Lg, u, d, v, col, rfl, h⟩ := h
  have hb0 := up (Below.refl w.heap.size w) (.cells #[x0, x1, x2, x3, x4, x5, x6, x7, x8, x9] 57)
  have bR := Box.new w #[x0, x1, x2, x3, x4, x5, x6, x7, x8, x9] 57 rfl
  have h1 := h.later hb0.drew
  have hw := write_sh h1 (by omega) x0 x1 x2 x3 x4 x5 x6 x7 x8 x9 t (fun W hb => kc W (fin hb hb0.drew)) (fun W hb => kt W (fin hb hb0.drew))
  have c2 := h1.c2
  have c2' : (w.alloc (.cells #[x0, x1, x2, x3, x4, x5, x6, x7, x8, x9] 57)).cell? ⟨S, 2, none⟩ = some (.pointer (some ⟨T, 0, none⟩)) := (h.later hb0).c2
  have hT0 : Turn w (w.alloc (.cells #[x0, x1, x2, x3, x4, x5, x6, x7, x8, x9] 57)).drew (inC col) (inC col) := .of_below hb0.drew
  clear h h1 kc kt
  cases f
  case false =>
    go_enter Tryz.func61, Tryz.ntmps61
    go_wp2
    go_region_with (go_at_call 22; refine hw.mono ?_; rintro e w2 ⟨rfl, v2, col2, h2, hT2⟩)
    all_goals
      go_wp2
      go_end0
      exact ⟨rfl, _, ⟨Lg, u, d, v2, col2, rfl, h2⟩, hT0.trans hT2⟩
  case true =>
    go_enter Tryz.func61, Tryz.ntmps61
    go_wp2
    go_region_with (go_at_call 22; refine hw.mono ?_; rintro e w2 ⟨rfl, v2, col2, h2, hT2⟩; have c22 := h2.c2; have hs := sync_sh h2 (by simp; omega))
    all_goals
      go_wp2_with (go_at_call 23; refine hs.mono ?_; rintro e w3 ⟨rfl, v3, col3, h3, hT3⟩)
      go_end0
      exact ⟨rfl, _, ⟨Lg, u, d, v3, col3, rfl, h3⟩, (hT0.trans hT2).trans hT3⟩

/-- What is decided of a gang. -/
def decS (x : ShS) (g st : Int) : ShS := { x with U := del x.U g, D := put iK x.D g st }

set_option maxRecDepth 100000 in
set_option maxHeartbeats 2000000 in
theorem qdecide_any (h : IsS w S T fp x) (g st : Int) (hg : (Lit.int .i64 g).wf = true) (hD : x.D.length ≤ 100000) :
    Calls Tryz.prog 113 #[.pointer (some ⟨S, 0, none⟩), .int .i64 g, .int .i64 st] w fun e w' => e = .returned (.tuple #[]) ∧ ∃ fp', IsS w' S T fp' (decS x g st) ∧ Turn w w' fp fp' := by
  obtain ⟨Lg, u, d, v, col, rfl, h⟩ := h
  have c4 := h.c4
  have hu := h.und
  go_enter Tryz.func113, Tryz.ntmps113
  go_wp2_with (first
    | (at_delete; refine wpList_delete_own _ rfl _ _ 88 3 rfl 20 kI Tryz.underlying88 raw u _ _ rfl hu _ _ rfl (keyI hg) ?_; intro w1 hown1 hturn1
       have hg1 := hturn1.grown
       obtain ⟨h1, hT1⟩ := h.mapU (MOwn.del hown1) hg1 (fun e he => h.ok e (mem_del.1 he).1)
       have c5 := h1.c5
       obtain ⟨w2, hrun2, hown2, hg2⟩ := MOwn.update h1.dec Tryz.underlying89 g hg (by simp only; omega) st
       simp only [dval] at hrun2
       go_frame)
    | go_in)
  go_end0
  obtain ⟨h2, hT2⟩ := h1.mapD hown2 hg2
  exact ⟨rfl, _, ⟨Lg, u, d, v, col, rfl, h2⟩, hT1.trans hT2⟩
end

end Go.Proofs.YthneemgpifbehaaGreatDoor

/- A shard: what was decided is followed, and recorded. -/
namespace Go.Proofs.YthneemgpifbehaaGreatDoor
open Go.RowKit Go.Maps
set_option linter.unusedSimpArgs false
set_option linter.unusedVariables false

/-- The listed tables are there, whatever is done from block B on. -/
structure Base (B : Nat) (w : World) : Prop where
  le : B ≤ w.heap.size
  pos : 0 < B
  t : Tab w
  tb : TabB B w
theorem Base.on {B : Nat} {w w' : World} (h : Base B w) (hb : Below B w w') : Base B w' := by
  have k : ∀ {i : Nat} {v : Value}, w.cell? ⟨0, i, none⟩ = some v → w'.cell? ⟨0, i, none⟩ = some v := fun hc => cell_below hb hc h.pos
  exact ⟨Nat.le_trans h.le hb.size, h.pos, ⟨k h.t.c0, k h.t.c1, k h.t.c2, k h.t.c3, k h.t.c4, k h.t.c5, k h.t.c6, k h.t.c7, k h.t.c8⟩, h.tb.on hb⟩
theorem Base.later {B : Nat} {w w' : World} (h : Base B w) (hb : Below w.heap.size w w') : Base B w' := h.on (hb.mono h.le)
theorem Base.top {B : Nat} {w : World} (h : Base B w) : TabB w.heap.size w := h.tb.up h.le
theorem Turn.low' {B : Nat} {w w' : World} {fp fp' : Nat → Prop} (h : Turn w w' fp fp') (hf : ∀ b, fp b → B ≤ b) (hb : B ≤ w.heap.size) : ∀ b, fp' b → B ≤ b := fun b hb' => (h.new b hb').elim (hf b) (fun h' => Nat.le_trans hb h')
theorem Turn.on {B : Nat} {w w' : World} {fp fp' : Nat → Prop} (h : Turn w w' fp fp') (hf : ∀ b, fp b → B ≤ b) (hb : B ≤ w.heap.size) : Below B w w' := h.kept.below hb hf

theorem wfN (g : Nat) (h : g ≤ 999999) : (Lit.int .i64 (g : Int)).wf = true := by
  have e1 : IntKind.i64.min = -9223372036854775808 := rfl
  have e2 : IntKind.i64.max = 9223372036854775807 := rfl
  simp only [Lit.wf, e1, e2, Bool.and_eq_true, decide_eq_true_eq]
  omega

/-- A gang has nothing more in the ledger. -/
def giveS (x : ShS) (g : Int) : ShS := { x with G := del x.G g }

theorem give_sh {w : World} {S T Lg u d : Nat} {v : Value} {col : Nat → Nat} {x : ShS} (h : ShP w S T Lg u d v col x) (g : Int) (hg : (Lit.int .i64 g).wf = true) (hG : x.G.length ≤ 1000) :
    Calls Tryz.prog 114 #[.pointer (some ⟨Lg, 0, none⟩), .int .i64 g] w fun e w' => e = .returned (.int .i64 (giveE x.G g)) ∧ ∃ col', ShP w' S T Lg u d v col' (giveS x g) ∧ Turn w w' (inC col) (inC col') := by
  obtain ⟨E, hE, hC⟩ := h.led
  refine (giveL w Lg _ E x.G hE g hg hG).mono ?_
  rintro e w' ⟨he, E', h1, h2, h3, h4⟩
  obtain ⟨col', h5, h6⟩ := h.ledger ⟨E', h1, h3.trans hC⟩ h4
  exact ⟨he, col', h5, h6⟩

/-- A record of a gang's number alone. -/
abbrev oneV (k : Int) (g : Nat) : Value := .agg #[.int .i64 k, .int .i64 g, .slice none 0 0, .slice none 0 0, .string ⟨#[]⟩, .int .i64 0, .int .i64 0, .slice none 0 0, .slice none 0 0, .bool false]

section
variable {w : World} {S T : Nat} {fp : Nat → Prop} {x : ShS}

set_option maxRecDepth 100000 in
set_option maxHeartbeats 2000000 in
theorem qfollow_four (h : IsS w S T fp x) (g : Nat) (hg : g ≤ 999999) (hD : x.D.length ≤ 100000) :
    Calls Tryz.prog 55 #[.pointer (some ⟨S, 0, none⟩), oneV 4 g] w fun e w' => e = .returned (.tuple #[]) ∧ ∃ fp', IsS w' S T fp' (decS x g 3) ∧ Turn w w' fp fp' := by
  have hb0 := up (Below.refl w.heap.size w) (.cells #[.int .i64 4, .int .i64 g, .slice none 0 0, .slice none 0 0, .string ⟨#[]⟩, .int .i64 0, .int .i64 0, .slice none 0 0, .slice none 0 0, .bool false] 57)
  have kd := qdecide_any (h.later hb0) g 3 (wfN g hg) hD
  have hT0 : Turn w _ fp fp := .of_below hb0
  clear h
  go_enter Tryz.func55, Tryz.ntmps55
  go_wp2_with (go_at_call 113; refine kd.mono ?_; rintro e w2 ⟨rfl, fp2, h2, hT2⟩)
  go_end0
  exact ⟨rfl, fp2, h2, hT0.trans hT2⟩

set_option maxRecDepth 100000 in
set_option maxHeartbeats 2000000 in
theorem qfollow_five (h : IsS w S T fp x) (g : Nat) (hg : g ≤ 999999) (hD : x.D.length ≤ 100000) (hG : x.G.length ≤ 1000) :
    Calls Tryz.prog 55 #[.pointer (some ⟨S, 0, none⟩), oneV 5 g] w fun e w' => e = .returned (.tuple #[]) ∧ ∃ fp', IsS w' S T fp' (decS (giveS x g) g 4) ∧ Turn w w' fp fp' := by
  have hb0 := up (Below.refl w.heap.size w) (.cells #[.int .i64 5, .int .i64 g, .slice none 0 0, .slice none 0 0, .string ⟨#[]⟩, .int .i64 0, .int .i64 0, .slice none 0 0, .slice none 0 0, .bool false] 57)
  have bR := Box.new w #[.int .i64 5, .int .i64 g, .slice none 0 0, .slice none 0 0, .string ⟨#[]⟩, .int .i64 0, .int .i64 0, .slice none 0 0, .slice none 0 0, .bool false] 57 rfl
  obtain ⟨Lg, u, d, v, col, rfl, h⟩ := h
  have hn : ¬ inC col w.heap.size := fun hc => by have := h.lt _ hc; omega
  have h1 := h.later hb0.drew
  have c3 := h1.c3
  have c3' : (w.alloc (.cells #[.int .i64 5, .int .i64 g, .slice none 0 0, .slice none 0 0, .string ⟨#[]⟩, .int .i64 0, .int .i64 0, .slice none 0 0, .slice none 0 0, .bool false] 57)).cell? ⟨S, 3, none⟩ = some (.pointer (some ⟨Lg, 0, none⟩)) := (h.later hb0).c3
  have kg := give_sh h1 g (wfN g hg) hG
  have hT0 : Turn w _ (inC col) (inC col) := .of_below hb0.drew
  clear h h1
  go_enter Tryz.func55, Tryz.ntmps55
  go_wp2
  go_region_with (go_at_call 114; refine kg.mono ?_
                  rintro e w2 ⟨rfl, col2, h2, hT2⟩
                  have b2 := hT2.kept.box (Box.drew bR) hn
                  have r1 : w2.cell? ⟨w.heap.size, 1, none⟩ = some (.int .i64 g) := b2.cell rfl
                  have kd := qdecide_any (w := w2) (x := giveS x g) ⟨Lg, u, d, v, col2, rfl, h2⟩ g 4 (wfN g hg) hD)
  all_goals
    go_wp2_with (go_at_call 113; refine kd.mono ?_; rintro e w3 ⟨rfl, fp3, h3, hT3⟩)
    go_end0
    exact ⟨rfl, fp3, h3, (hT0.trans hT2).trans hT3⟩

set_option maxRecDepth 100000 in
set_option maxHeartbeats 2000000 in
theorem qfollow_six (h : IsS w S T fp x) (g : Nat) (hg : g ≤ 999999) (hD : x.D.length ≤ 100000) (hG : x.G.length ≤ 1000) :
    Calls Tryz.prog 55 #[.pointer (some ⟨S, 0, none⟩), oneV 6 g] w fun e w' => e = .returned (.tuple #[]) ∧ ∃ fp', IsS w' S T fp' (decS (giveS x g) g 5) ∧ Turn w w' fp fp' := by
  have hb0 := up (Below.refl w.heap.size w) (.cells #[.int .i64 6, .int .i64 g, .slice none 0 0, .slice none 0 0, .string ⟨#[]⟩, .int .i64 0, .int .i64 0, .slice none 0 0, .slice none 0 0, .bool false] 57)
  have bR := Box.new w #[.int .i64 6, .int .i64 g, .slice none 0 0, .slice none 0 0, .string ⟨#[]⟩, .int .i64 0, .int .i64 0, .slice none 0 0, .slice none 0 0, .bool false] 57 rfl
  obtain ⟨Lg, u, d, v, col, rfl, h⟩ := h
  have hn : ¬ inC col w.heap.size := fun hc => by have := h.lt _ hc; omega
  have h1 := h.later hb0.drew
  have c3 := h1.c3
  have c3' : (w.alloc (.cells #[.int .i64 6, .int .i64 g, .slice none 0 0, .slice none 0 0, .string ⟨#[]⟩, .int .i64 0, .int .i64 0, .slice none 0 0, .slice none 0 0, .bool false] 57)).cell? ⟨S, 3, none⟩ = some (.pointer (some ⟨Lg, 0, none⟩)) := (h.later hb0).c3
  have kg := give_sh h1 g (wfN g hg) hG
  have hT0 : Turn w _ (inC col) (inC col) := .of_below hb0.drew
  clear h h1
  go_enter Tryz.func55, Tryz.ntmps55
  go_wp2
  go_region_with (go_at_call 114; refine kg.mono ?_
                  rintro e w2 ⟨rfl, col2, h2, hT2⟩
                  have b2 := hT2.kept.box (Box.drew bR) hn
                  have r1 : w2.cell? ⟨w.heap.size, 1, none⟩ = some (.int .i64 g) := b2.cell rfl
                  have kd := qdecide_any (w := w2) (x := giveS x g) ⟨Lg, u, d, v, col2, rfl, h2⟩ g 5 (wfN g hg) hD)
  all_goals
    go_wp2_with (go_at_call 113; refine kd.mono ?_; rintro e w3 ⟨rfl, fp3, h3, hT3⟩)
    go_end0
    exact ⟨rfl, fp3, h3, (hT0.trans hT2).trans hT3⟩

/-- What a decision does. -/
def actS (k : Nat) (x : ShS) (g : Int) : ShS := match k with
  | 4 => decS x g 3
  | 5 => decS (giveS x g) g 4
  | _ => decS (giveS x g) g 5
theorem actS_rec (k : Nat) (x : ShS) (g : Int) (t : ByteArray) (f : Bool) : actS k (recS x t f) g = recS (actS k x g) t f := by
  unfold actS
  cases f <;> split <;> rfl

set_option maxRecDepth 100000 in
set_option maxHeartbeats 2000000 in
theorem qdo_any (B : Nat) (hB : Base B w) (h : IsS w S T fp x) (k : Nat) (hk : k = 4 ∨ k = 5 ∨ k = 6) (g : Nat) (g1 : 1 ≤ g) (g2 : g ≤ 999999) (f : Bool) (hl : x.A.length + x.L.length < 999980) (hD : x.D.length ≤ 100000) (hG : x.G.length ≤ 1000) :
    Calls Tryz.prog 149 #[.pointer (some ⟨S, 0, none⟩), .int .i64 k, .int .i64 g, .bool f] w fun e w' => e = .returned (.tuple #[]) ∧ ∃ fp', IsS w' S T fp' (recS (actS k x g) (bs (oneT k g)) f) ∧ Turn w w' fp fp' := by
  have hb0 := up (Below.refl w.heap.size w) (.cells #[.int .i64 k, .int .i64 g, .slice none 0 0, .slice none 0 0, .string ⟨#[]⟩, .int .i64 0, .int .i64 0, .slice none 0 0, .slice none 0 0, .bool false] 57)
  have bR := Box.new w #[.int .i64 k, .int .i64 g, .slice none 0 0, .slice none 0 0, .string ⟨#[]⟩, .int .i64 0, .int .i64 0, .slice none 0 0, .slice none 0 0, .bool false] 57 rfl
  have hn : ¬ fp w.heap.size := fun hc => by have := h.lt _ hc; omega
  have kc : ∀ W, Below (w.alloc (.cells #[.int .i64 k, .int .i64 g, .slice none 0 0, .slice none 0 0, .string ⟨#[]⟩, .int .i64 0, .int .i64 0, .slice none 0 0, .slice none 0 0, .bool false] 57)).heap.size (w.alloc (.cells #[.int .i64 k, .int .i64 g, .slice none 0 0, .slice none 0 0, .string ⟨#[]⟩, .int .i64 0, .int .i64 0, .slice none 0 0, .slice none 0 0, .bool false] 57)) W → Calls Tryz.prog 50 #[oneV k g] W fun e W' => e = .returned (.int .i64 0) ∧ Below W.heap.size W W' := fun W _ => by
    have e := gangE_ok g g1 g2
    rcases hk with rfl | rfl | rfl
    · have := check_four g W; rwa [e] at this
    · have := check_five g W; rwa [e] at this
    · have := check_six g W; rwa [e] at this
  have kt : ∀ W, Below (w.alloc (.cells #[.int .i64 k, .int .i64 g, .slice none 0 0, .slice none 0 0, .string ⟨#[]⟩, .int .i64 0, .int .i64 0, .slice none 0 0, .slice none 0 0, .bool false] 57)).heap.size (w.alloc (.cells #[.int .i64 k, .int .i64 g, .slice none 0 0, .slice none 0 0, .string ⟨#[]⟩, .int .i64 0, .int .i64 0, .slice none 0 0, .slice none 0 0, .bool false] 57)) W → Calls Tryz.prog 59 #[oneV k g] W fun e W' => e = .returned (.string (bs (oneT k g))) ∧ Below W.heap.size W W' := fun W hW => by
    have hTW := ((hB.later hb0).later hW).top
    rcases hk with rfl | rfl | rfl
    · exact text_four g W (by omega) hTW
    · exact text_five g W (by omega) hTW
    · exact text_six g W (by omega) hTW
  have kr := qrecord_any (h.later hb0) hl _ _ _ _ _ _ _ _ _ _ (bs (oneT k g)) f kc kt
  have kf : ∀ (W : World) (fp' : Nat → Prop), IsS W S T fp' (recS x (bs (oneT k g)) f) → Calls Tryz.prog 55 #[.pointer (some ⟨S, 0, none⟩), oneV k g] W fun e w' => e = .returned (.tuple #[]) ∧ ∃ fp'', IsS w' S T fp'' (recS (actS k x g) (bs (oneT k g)) f) ∧ Turn W w' fp' fp'' := fun W fp' hW => by
    rw [← actS_rec]
    have d1 : (recS x (bs (oneT k g)) f).D.length ≤ 100000 := by cases f <;> exact hD
    have d2 : (recS x (bs (oneT k g)) f).G.length ≤ 1000 := by cases f <;> exact hG
    rcases hk with rfl | rfl | rfl
    · exact qfollow_four hW g g2 d1
    · exact qfollow_five hW g g2 d1 d2
    · exact qfollow_six hW g g2 d1 d2
  have hT0 : Turn w _ fp fp := .of_below hb0
  clear h hB kc kt
  go_enter Tryz.func149, Tryz.ntmps149
  go_wp2_with (first
    | (go_at_call 61; refine kr.mono ?_
       rintro e w2 ⟨rfl, fp2, h2, hT2⟩
       have b2 := hT2.kept.box bR hn
       obtain ⟨r0, r1, r2, r3, r4, r5, r6, r7, r8, r9⟩ := RecBox.cells b2)
    | (go_at_call 55; refine (kf _ _ h2).mono ?_; rintro e w3 ⟨rfl, fp3, h3, hT3⟩))
  go_end0
  exact ⟨rfl, fp3, h3, (hT0.trans hT2).trans hT3⟩
end

end Go.Proofs.YthneemgpifbehaaGreatDoor
