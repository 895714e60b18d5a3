/- Gangs of a coordinator in memory. -/
import Derived.Test.YtlehlbgaboifoabGreatDoorMg20
import Derived.Test.YtlehlbgaboifoabGreatDoorMg23
import Derived.Test.YtlehlbgaboifoabGreatDoorMg05
namespace Go.Proofs.YtlehlbgaboifoabGreatDoor
open Go.RowKit Go.Maps
set_option linter.unusedSimpArgs false
set_option linter.unusedVariables false

/-- A row of pods lies in these blocks. -/
def PodsIn (Q : Nat → Prop) (a : Option Addr) (l : List PodT) : Prop :=
  (∀ x, a = some x → l ≠ [] → Q x.block) ∧ ∀ p ∈ l, (∀ x, p.pa = some x → p.ps ≠ [] → Q x.block) ∧ (∀ x, p.ba = some x → p.bs ≠ [] → Q x.block)
theorem PodsIn.wide {Q R : Nat → Prop} {a : Option Addr} {l : List PodT} (h : PodsIn Q a l) (hk : ∀ b, Q b → R b) : PodsIn R a l :=
  ⟨fun x hx hn => hk _ (h.1 x hx hn), fun p hp => ⟨fun x hx hn => hk _ ((h.2 p hp).1 x hx hn), fun x hx hn => hk _ ((h.2 p hp).2 x hx hn)⟩⟩
theorem PodAt.frame {w w' : World} {B o : Nat} {p : PodT} (h : PodAt w B o p) (hk : w'.heap[B]? = w.heap[B]?) : PodAt w' B o p := by
  obtain ⟨h0, h1, h2, h3, h4, h5, h6⟩ := h
  exact ⟨(World.cell?_of_block hk).trans h0, (World.cell?_of_block hk).trans h1, (World.cell?_of_block hk).trans h2, (World.cell?_of_block hk).trans h3, (World.cell?_of_block hk).trans h4, (World.cell?_of_block hk).trans h5, (World.cell?_of_block hk).trans h6⟩
theorem Pods.frame {w w' : World} {Q : Nat → Prop} {a : Option Addr} {l : List PodT} (h : Pods w a l) (hi : PodsIn Q a l) (hk : ∀ b, Q b → w'.heap[b]? = w.heap[b]?) : Pods w' a l :=
  ⟨h.1, fun i p hp => by
    obtain ⟨B, o, ha, h1, h2⟩ := h.2 i p hp
    have hm := hi.2 p (List.mem_of_getElem? hp)
    exact ⟨B, o, ha, h1.frame (hk _ (hi.1 _ ha (by intro e; simp [e] at hp))), h2.1.frame fun x hx hn => hk _ (hm.1 x hx hn), h2.2.frame fun x hx hn => hk _ (hm.2 x hx hn)⟩⟩

/-- How far a gang has come: it is held, it is prepared, it is decided. -/
inductive Ph
  | nul
  | hold (age : Nat) (pods : List PodT)
  | prep (age : Nat)
  | dec (v : Nat)
/-- A gang: its block, its peers, whom it waits for, how far it has come. -/
structure GS where
  b : Nat
  ps : List Nat
  ws : List Nat
  ph : Ph
def GS.val (g : GS) : Value := .pointer (some ⟨g.b, 0, none⟩)

abbrev ptr (b : Nat) : Value := .pointer (some ⟨b, 0, none⟩)
/-- What holding leaves in memory. -/
structure HoldAt (w : World) (C : Nat) (Q R : Nat → Prop) (id b P gb xb cb pb : Nat) (a : Option Addr) (c age : Nat) (pods : List PodT) : Prop where
  bP : Box w P #[.int .i64 1, .int .i64 2, .int .i64 age, .func (.func 87) #[] #[ptr gb], .func (.func 89) #[] #[ptr xb, ptr cb, ptr pb]] 138
  bg : Box w gb #[.int .i64 id, .slice a pods.length c] 39
  hp : Pods w a pods
  bx : Box w xb #[ptr b] 79
  bc : Box w cb #[ptr C] 30
  bp : Box w pb #[ptr P] 92
  qP : Q P
  nP : ¬ R P
  rg : R gb
  rx : R xb
  rc : R cb
  rp : R pb
  rs : PodsIn R a pods
/-- What preparing leaves in memory. -/
structure PrepAt (w : World) (C : Nat) (Q R : Nat → Prop) (b P xb cb : Nat) (age : Nat) : Prop where
  bP : Box w P #[.int .i64 2, .int .i64 4, .int .i64 age, .func (.func 124) #[] #[ptr xb], .func (.func 125) #[] #[ptr cb, ptr xb]] 138
  bx : Box w xb #[ptr b] 79
  bc : Box w cb #[ptr C] 30
  qP : Q P
  nP : ¬ R P
  rx : R xb
  rc : R cb

def PhAt (w : World) (C : Nat) (Q R : Nat → Prop) (id b : Nat) (v : Value) : Ph → Prop
  | .nul => v = .nilIface
  | .hold age pods => age ≤ 100 ∧ ∃ P gb xb cb pb a c, v = .iface 92 (ptr P) ∧ HoldAt w C Q R id b P gb xb cb pb a c age pods
  | .prep age => age ≤ 100 ∧ ∃ P xb cb, v = .iface 92 (ptr P) ∧ PrepAt w C Q R b P xb cb age
  | .dec n => v = .iface 140 (.int .i64 n) ∧ 3 ≤ n ∧ n ≤ 5

section
variable {w w' : World} {C : Nat} {Q R Q' R' : Nat → Prop} {id b : Nat} {v : Value}
theorem HoldAt.frame {P gb xb cb pb : Nat} {a : Option Addr} {c age : Nat} {pods : List PodT} (h : HoldAt w C Q R id b P gb xb cb pb a c age pods) (hR : ∀ k, R k → w'.heap[k]? = w.heap[k]?) (hP : w'.heap[P]? = w.heap[P]?) (q : Q' P) (n : ¬ R' P) (hRR : ∀ k, R k → R' k) : HoldAt w' C Q' R' id b P gb xb cb pb a c age pods :=
  ⟨h.bP.frame hP, h.bg.frame (hR _ h.rg), h.hp.frame h.rs hR, h.bx.frame (hR _ h.rx), h.bc.frame (hR _ h.rc), h.bp.frame (hR _ h.rp), q, n, hRR _ h.rg, hRR _ h.rx, hRR _ h.rc, hRR _ h.rp, h.rs.wide hRR⟩
theorem PrepAt.frame {P xb cb age : Nat} (h : PrepAt w C Q R b P xb cb age) (hR : ∀ k, R k → w'.heap[k]? = w.heap[k]?) (hP : w'.heap[P]? = w.heap[P]?) (q : Q' P) (n : ¬ R' P) (hRR : ∀ k, R k → R' k) : PrepAt w' C Q' R' b P xb cb age :=
  ⟨h.bP.frame hP, h.bx.frame (hR _ h.rx), h.bc.frame (hR _ h.rc), q, n, hRR _ h.rx, hRR _ h.rc⟩
theorem PhAt.frame {ph : Ph} (h : PhAt w C Q R id b v ph) (hR : ∀ k, R k → w'.heap[k]? = w.heap[k]?) (hP : ∀ P, v = .iface 92 (ptr P) → Q P → ¬ R P → (∃ cs, Box w P cs 138) → w'.heap[P]? = w.heap[P]? ∧ Q' P ∧ ¬ R' P) (hRR : ∀ k, R k → R' k) : PhAt w' C Q' R' id b v ph := by
  cases ph with
  | nul => exact h
  | hold age pods =>
    obtain ⟨ha, P, gb, xb, cb, pb, a, c, e, h⟩ := h
    obtain ⟨h1, h2, h3⟩ := hP P e h.qP h.nP ⟨_, h.bP⟩
    exact ⟨ha, P, gb, xb, cb, pb, a, c, e, h.frame hR h1 h2 h3 hRR⟩
  | prep age =>
    obtain ⟨ha, P, xb, cb, e, h⟩ := h
    obtain ⟨h1, h2, h3⟩ := hP P e h.qP h.nP ⟨_, h.bP⟩
    exact ⟨ha, P, xb, cb, e, h.frame hR h1 h2 h3 hRR⟩
  | dec n => exact h
end

/-- A gang in memory; R: what is not written to. -/
structure GA (w : World) (C : Nat) (Q R : Nat → Prop) (id : Nat) (g : GS) (pa : Option Addr) (pc : Nat) (wv v : Value) : Prop where
  box : Box w g.b #[.int .i64 id, .slice pa g.ps.length pc, wv, v] 83
  ps : Nats w pa g.ps
  ws : w.ownsRow 0 3 1 wv g.ws.length (g.ws.map natV)
  ph : PhAt w C Q R id g.b v g.ph
  sub : ∀ k, R k → Q k
  qb : Q g.b
  rb : ¬ R g.b
  pR : ∀ x, pa = some x → R x.block
  pS : SP pa
  wQ : ∀ k, wv.ownBlock = some k → Q k ∧ ¬ R k
  lp : g.ps.length ≤ 4
  lw : g.ws.length ≤ 4
  wn : g.ph ≠ .nul → g.ps ≠ [] → wv.ownBlock ≠ none
  lt : ∀ k, Q k → k < w.heap.size
def GangAt (w : World) (C : Nat) (Q : Nat → Prop) (id : Nat) (g : GS) : Prop := ∃ R pa pc wv v, GA w C Q R id g pa pc wv v

section
variable {w w' : World} {C : Nat} {Q R : Nat → Prop} {id : Nat} {g : GS} {pa : Option Addr} {pc : Nat} {wv v : Value}
theorem GA.frame (h : GA w C Q R id g pa pc wv v) (hk : ∀ k, Q k → w'.heap[k]? = w.heap[k]?) (hs : w.heap.size ≤ w'.heap.size) : GA w' C Q R id g pa pc wv v where
  box := h.box.frame (hk _ h.qb)
  ps := h.ps.frame fun y hy _ => hk _ (h.sub _ (h.pR y hy))
  ws := own_frame h.ws fun k hk' => hk _ (h.wQ k hk').1
  ph := h.ph.frame (fun k hR => hk _ (h.sub _ hR)) (fun P _ q n _ => ⟨hk _ q, q, n⟩) (fun _ h => h)
  sub := h.sub
  qb := h.qb
  rb := h.rb
  pR := h.pR
  pS := h.pS
  wQ := h.wQ
  lp := h.lp
  lw := h.lw
  wn := h.wn
  lt := fun k hq => Nat.lt_of_lt_of_le (h.lt k hq) hs
theorem GA.later (h : GA w C Q R id g pa pc wv v) (hb : Below w.heap.size w w') : GA w' C Q R id g pa pc wv v := h.frame (fun k hk => hb.block k (h.lt k hk)) hb.size
theorem GangAt.frame (h : GangAt w C Q id g) (hk : ∀ k, Q k → w'.heap[k]? = w.heap[k]?) (hs : w.heap.size ≤ w'.heap.size) : GangAt w' C Q id g := by
  obtain ⟨R, pa, pc, wv, v, h⟩ := h
  exact ⟨R, pa, pc, wv, v, h.frame hk hs⟩
theorem GangAt.later (h : GangAt w C Q id g) (hb : Below w.heap.size w w') : GangAt w' C Q id g := by
  obtain ⟨R, pa, pc, wv, v, h⟩ := h
  exact ⟨R, pa, pc, wv, v, h.later hb⟩
theorem GangAt.lt (h : GangAt w C Q id g) : ∀ k, Q k → k < w.heap.size := by
  obtain ⟨R, pa, pc, wv, v, h⟩ := h
  exact h.lt
/-- The poll's block is none of the others. -/
theorem GA.pne (h : GA w C Q R id g pa pc wv v) {P : Nat} {cs : Array Value} (hP : Box w P cs 138) : P ≠ g.b ∧ wv.ownBlock ≠ some P :=
  ⟨hP.apart h.box (by decide), own_off h.ws hP (by decide)⟩
theorem GA.wne (h : GA w C Q R id g pa pc wv v) : wv.ownBlock ≠ some g.b := own_off h.ws h.box (by decide)
end

/-- A message: its kind, to whom, of which gang, its pods, its peers, yes or no; where its rows lie. -/
structure MG where
  k : Nat
  tg : Nat
  id : Nat
  pa : Option Addr
  pc : Nat
  pods : List PodT
  ra : Option Addr
  rc : Nat
  rs : List Nat
  yes : Bool
def MG.cells (m : MG) : List Value := [.int .i64 m.k, .int .i64 0, .int .i64 m.tg, .int .i64 m.id, .slice m.pa m.pods.length m.pc, .slice m.ra m.rs.length m.rc, .bool m.yes]
/-- What a message says. -/
structure MD where
  k : Nat
  tg : Nat
  id : Nat
  pods : List (ByteArray × Int × Int × Int × List ByteArray × List ByteArray × Bool)
  rs : List Nat
  yes : Bool
def MG.data (m : MG) : MD := ⟨m.k, m.tg, m.id, m.pods.map PodT.data, m.rs, m.yes⟩
structure MG.Ok (w : World) (Q : Nat → Prop) (m : MG) : Prop where
  hp : Pods w m.pa m.pods
  hr : Nats w m.ra m.rs
  pQ : PodsIn Q m.pa m.pods
  rQ : ∀ x, m.ra = some x → m.rs ≠ [] → Q x.block
  pcap : m.pods.length ≤ m.pc
  rcap : m.rs.length ≤ m.rc
  pS : SP m.pa
  rS : SP m.ra
theorem MG.Ok.frame {w w' : World} {Q : Nat → Prop} {m : MG} (h : m.Ok w Q) (hk : ∀ k, Q k → w'.heap[k]? = w.heap[k]?) : m.Ok w' Q :=
  ⟨h.hp.frame h.pQ hk, h.hr.frame fun y hy hn => hk _ (h.rQ y hy hn), h.pQ, h.rQ, h.pcap, h.rcap, h.pS, h.rS⟩
theorem MG.Ok.wide {w : World} {Q Q' : Nat → Prop} {m : MG} (h : m.Ok w Q) (hk : ∀ k, Q k → Q' k) : m.Ok w Q' :=
  ⟨h.hp, h.hr, h.pQ.wide hk, fun x hx hn => hk _ (h.rQ x hx hn), h.pcap, h.rcap, h.pS, h.rS⟩
/-- What is said to a shard. -/
def wordS (ps : List Nat) (id s : Nat) : Ph → MD
  | .nul => ⟨0, s, id, [], [], false⟩
  | .hold _ pods => ⟨1, s, id, (pods.filter fun p => decide (p.shard = (s : Int))).map PodT.data, [], false⟩
  | .prep _ => ⟨3, s, id, [], ps, false⟩
  | .dec n => if n = 5 then ⟨9, s, id, [], [], false⟩ else ⟨5, s, id, [], [], decide (n = 3)⟩

/-- The blocks made since. -/
def New (w w' : World) : Nat → Prop := fun k => w.heap.size ≤ k ∧ k < w'.heap.size
/-- A row of messages, new. -/
def MsgsN (w w' : World) (v : Value) (ds : List MD) : Prop :=
  ∃ (l : List MG) (Q : Nat → Prop), w'.ownsRow w.heap.size 46 7 v l.length (l.flatMap MG.cells) ∧ l.map MG.data = ds ∧ (∀ m ∈ l, m.Ok w' Q) ∧ (∀ k, Q k → New w w' k ∧ v.ownBlock ≠ some k)
theorem pods_nil (w : World) : Pods w none [] := ⟨by simp, fun i p hp => by simp at hp⟩
theorem podsIn_nil (Q : Nat → Prop) : PodsIn Q none [] := ⟨(fun x hx => by cases hx), fun p hp => by cases hp⟩
theorem nats_nil (w : World) (a : Option Addr) : Nats w a [] := fun i hi => by simp at hi
theorem MG.plain (w : World) (Q : Nat → Prop) (k tg id : Nat) (yes : Bool) : (⟨k, tg, id, none, 0, [], none, 0, [], yes⟩ : MG).Ok w Q :=
  ⟨pods_nil w, nats_nil w none, podsIn_nil Q, (fun x hx => by cases hx), Nat.le_refl _, Nat.le_refl _, SP.none, SP.none⟩

end Go.Proofs.YtlehlbgaboifoabGreatDoor
