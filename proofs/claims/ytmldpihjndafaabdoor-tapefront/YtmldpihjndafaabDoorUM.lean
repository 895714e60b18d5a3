/- The contracts of words, peers, places, node of package line's writer. -/
import Derived.Test.YtmldpihjndafaabDoorUC
namespace Go.Proofs.YtmldpihjndafaabDoor
open Go.RowKit
set_option linter.unusedSimpArgs false
set_option linter.unusedVariables false

/-- Names, a sign ahead of each. -/
def namesT (c : UInt8) (ss : List ByteArray) : List UInt8 := ss.flatMap (wordT c)
/-- Numbers, a sign ahead of each, the first one's this one, the others' a comma. -/
def peersT : UInt8 → List Nat → List UInt8
  | _, [] => []
  | c, n :: l => numT c n ++ peersT 44 l
/-- A place. -/
def placeT (p : PlaceB) : List UInt8 := wordT 32 p.pod ++ wordT 62 p.node ++ vecT p.cpu p.mem ++ flagT p.alone
def placesT (l : List PlaceB) : List UInt8 := l.flatMap placeT
/-- A node. -/
def nodeT (n : NodeB) : List UInt8 := wordT 32 n.name ++ vecT n.cpu n.mem ++ namesT 43 n.marks ++ namesT 126 n.taints ++ flagT n.closed

/-- A row of numbers. -/
def Nats (w : World) (a : Option Addr) (ps : List Nat) : Prop := ∀ i, i < ps.length → ∃ x, a = some x ∧ w.cell? (x.add i) = some (.int .i64 (ps.getD i 0))
/-- A place in memory. -/
def PlaceAt (w : World) (g o : Nat) (p : PlaceB) : Prop :=
  w.cell? ⟨g, o, none⟩ = some (.string p.pod) ∧ w.cell? ⟨g, o + 1, none⟩ = some (.string p.node) ∧ w.cell? ⟨g, o + 2, none⟩ = some (.int .i64 p.cpu) ∧ w.cell? ⟨g, o + 3, none⟩ = some (.int .i64 p.mem) ∧ w.cell? ⟨g, o + 4, none⟩ = some (.bool p.alone)
/-- A row of places. -/
def Pls (w : World) (a : Option Addr) (qs : List PlaceB) : Prop := ∀ i p, qs[i]? = some p → ∃ g o, a = some ⟨g, o, none⟩ ∧ PlaceAt w g (o + i * 5) p
/-- A row that lies below block B. -/
def Low (B : Nat) (a : Option Addr) : Prop := ∀ x, a = some x → x.block < B

theorem add_low {B : Nat} {x : Addr} (h : x.block < B) (i : Nat) : (x.add i).block < B := by
  unfold Addr.add
  split <;> exact h
theorem Strs.on {B : Nat} {w w' : World} {a : Option Addr} {ss : List ByteArray} (h : Strs w a ss) (hl : Low B a) (hb : Below B w w') : Strs w' a ss :=
  ⟨h.1, fun i hi => by
    obtain ⟨x, hx, hc⟩ := h.2 i hi
    exact ⟨x, hx, cell_below hb hc (add_low (hl x hx) i)⟩⟩
theorem Nats.on {B : Nat} {w w' : World} {a : Option Addr} {ps : List Nat} (h : Nats w a ps) (hl : Low B a) (hb : Below B w w') : Nats w' a ps := fun i hi => by
  obtain ⟨x, hx, hc⟩ := h i hi
  exact ⟨x, hx, cell_below hb hc (add_low (hl x hx) i)⟩
theorem PlaceAt.on {B : Nat} {w w' : World} {g o : Nat} {p : PlaceB} (h : PlaceAt w g o p) (hl : g < B) (hb : Below B w w') : PlaceAt w' g o p :=
  ⟨cell_below hb h.1 hl, cell_below hb h.2.1 hl, cell_below hb h.2.2.1 hl, cell_below hb h.2.2.2.1 hl, cell_below hb h.2.2.2.2 hl⟩
theorem Pls.on {B : Nat} {w w' : World} {a : Option Addr} {qs : List PlaceB} (h : Pls w a qs) (hl : Low B a) (hb : Below B w w') : Pls w' a qs := fun i p hp => by
  obtain ⟨g, o, ha, hc⟩ := h i p hp
  exact ⟨g, o, ha, hc.on (hl _ ha) hb⟩

theorem take_snoc {α : Type} (l : List α) (k : Nat) (x : α) (h : l[k]? = some x) : l.take (k + 1) = l.take k ++ [x] := by
  have hk : k < l.length := (List.getElem?_eq_some_iff.1 h).1
  rw [List.take_succ_eq_append_getElem hk]
  congr 2
  exact (List.getElem?_eq_some_iff.1 h).2

theorem getD_some {α : Type} (l : List α) (k : Nat) (d : α) (h : k < l.length) : l[k]? = some (l.getD k d) := by
  simp [List.getD, List.getElem?_eq_getElem h]

theorem flat_take {α : Type} (f : α → List UInt8) (l : List α) (k : Nat) (x : α) (h : l[k]? = some x) : (l.take (k + 1)).flatMap f = (l.take k).flatMap f ++ f x := by
  rw [take_snoc l k x h, List.flatMap_append]
  simp

theorem flat_len {α : Type} (f : α → List UInt8) (l : List α) (m : Nat) (h : ∀ x ∈ l, (f x).length ≤ m) : (l.flatMap f).length ≤ l.length * m := by
  induction l with
  | nil => simp
  | cons x l ih =>
    have h1 := h x (by simp)
    have h2 := ih fun y hy => h y (by simp [hy])
    simp only [List.flatMap_cons, List.length_append, List.length_cons, Nat.add_mul, Nat.one_mul]
    omega

theorem wordT_len (c : UInt8) (s : ByteArray) : (wordT c s).length = s.size + 1 := by
  show (s.data.toList).length + 1 = _
  rw [Array.length_toList]
  rfl

set_option maxRecDepth 100000 in
set_option maxHeartbeats 2000000 in
theorem words_l (B b : Nat) (l : List UInt8) (c : UInt8) (a : Option Addr) (n cp : Nat) (ss : List ByteArray) (w : World) (hc : c.toNat ≤ 127) (h : AtW B b (Lib.byteCells l) w) (hS : Strs w a ss) (hn : ss.length = n) (hlo : Low B a) (hz : ∀ s ∈ ss, s.size ≤ 10000) (hlen : l.length ≤ 100000000) (hBw : B ≤ w.heap.size) :
    Calls Tryd.prog 65 #[.pointer (some ⟨b, 0, none⟩), .int .i32 c.toNat, .slice a n cp] w fun e w' => e = .returned (.tuple #[]) ∧ AtW B b (Lib.byteCells (l ++ namesT c ss)) w' ∧ Below B w w' ∧ Soft b w w' := by
  subst hn
  have hl := hS.1
  go_enter Tryd.func65, Tryd.ntmps65
  go_wp2
  go_loopw [10] (fun i wr => ∃ k : Nat, k ≤ ss.length ∧ i = .int .i64 k ∧ AtW B b (Lib.byteCells (l ++ namesT c (ss.take k))) wr ∧ Below B w wr ∧ Soft b w wr) (fun i _ => ss.length - (intOf i).toNat)
  case atStart => exact ⟨0, Nat.zero_le _, rfl, (by simpa [namesT] using h), Below.refl _ _, Soft.refl _ _⟩
  case round =>
    obtain ⟨k, hk, rfl, hA, hb, hf⟩ := hrel
    by_cases hlt : k < ss.length
    · obtain ⟨x, rfl, hcx⟩ := (hS.on hlo hb).2 k hlt
      have hget := getD_some ss k ByteArray.empty hlt
      obtain ⟨s, hs⟩ : ∃ s, ss.getD k ByteArray.empty = s := ⟨_, rfl⟩
      rw [hs] at hcx hget
      have hst : Hid (namesT c (ss.take (k + 1)) = namesT c (ss.take k) ++ wordT c s) := flat_take _ _ _ _ hget
      have hsz : s.size ≤ 10000 := hz s (List.mem_of_getElem? hget)
      have hL : (l ++ namesT c (ss.take k)).length + s.size + 1 ≤ 1000000000 := by
        have h1 := flat_len (wordT c) (ss.take k) 10001 (fun y hy => by rw [wordT_len]; have := hz y (List.mem_of_mem_take hy); omega)
        have h2 : (ss.take k).length ≤ 1000 := by rw [List.length_take]; omega
        rw [List.length_append]
        show l.length + ((ss.take k).flatMap (wordT c)).length + s.size + 1 ≤ _
        omega
      have kw := word_l B b _ c c.toNat s wr rfl hc hA hL (Nat.le_trans hBw hb.size)
      clear hget hs hS hz hL hsz
      go_wp2_with (go_at_call 46; refine kw.mono ?_; rintro e w2 ⟨rfl, h2, hb2, hf2⟩)
      go_roundw
      case rel => exact ⟨k + 1, hlt, by go_num, (by rw [hst.out, ← List.append_assoc]; exact h2), hb.trans hb2, hf.trans hf2⟩
      case measure => simp [intOf]; omega
    · have e1 : k = ss.length := by omega
      rw [e1, List.take_length] at hA
      subst e1
      clear hS hz
      go_wp2
      go_end0
      exact ⟨rfl, hA, hb, hf⟩

theorem peers_take (c : UInt8) (ps : List Nat) (k x : Nat) (h : ps[k]? = some x) : peersT c (ps.take (k + 1)) = peersT c (ps.take k) ++ numT (if k = 0 then c else 44) x := by
  induction ps generalizing c k with
  | nil => simp at h
  | cons n l ih =>
    cases k with
    | zero =>
      have : n = x := by simpa using h
      subst this
      simp [peersT]
    | succ k =>
      have h' : l[k]? = some x := by simpa using h
      simp only [List.take_succ_cons, peersT]
      rw [ih 44 k h', List.append_assoc]
      congr 2
      split <;> rfl

theorem peersT_len : ∀ (l : List Nat) (c : UInt8), (∀ x ∈ l, x ≤ 9223372036854775807) → (peersT c l).length ≤ l.length * 22
  | [], _, _ => by simp [peersT]
  | n :: l, c, h => by
    have h1 := numT_len c n (h n (by simp))
    have h2 := peersT_len l 44 fun x hx => h x (by simp [hx])
    simp only [peersT, List.length_append, List.length_cons]
    omega

set_option maxRecDepth 100000 in
set_option maxHeartbeats 2000000 in
theorem wPeers_l (B b : Nat) (l : List UInt8) (a : Option Addr) (n cp : Nat) (ps : List Nat) (w : World) (h : AtW B b (Lib.byteCells l) w) (hS : Nats w a ps) (hn : ps.length = n) (hn1 : n ≤ 1000) (hlo : Low B a) (hz : ∀ x ∈ ps, x ≤ 9223372036854775807) (hlen : l.length ≤ 100000000) (hBw : B ≤ w.heap.size) (hT : TabB B w) :
    Calls Tryd.prog 48 #[.pointer (some ⟨b, 0, none⟩), .slice a n cp] w fun e w' => e = .returned (.tuple #[]) ∧ AtW B b (Lib.byteCells (l ++ peersT 32 ps)) w' ∧ Below B w w' ∧ Soft b w w' := by
  subst hn
  go_enter Tryd.func48, Tryd.ntmps48
  go_wp2
  go_loopw [4, 9] (fun s i wr => ∃ k : Nat, k ≤ ps.length ∧ i = .int .i64 k ∧ s = .int .i32 (if k = 0 then 32 else 44) ∧ AtW B b (Lib.byteCells (l ++ peersT 32 (ps.take k))) wr ∧ Below B w wr ∧ Soft b w wr) (fun _ i _ => ps.length - (intOf i).toNat)
  case atStart => exact ⟨0, Nat.zero_le _, rfl, rfl, (by simpa [peersT] using h), Below.refl _ _, Soft.refl _ _⟩
  case round =>
    obtain ⟨k, hk, rfl, rfl, hA, hb, hf⟩ := hrel
    by_cases hlt : k < ps.length
    · obtain ⟨x, rfl, hcx⟩ := hS.on hlo hb k hlt
      have hget := getD_some ps k 0 hlt
      obtain ⟨s, hs⟩ : ∃ s, ps.getD k 0 = s := ⟨_, rfl⟩
      rw [hs] at hcx hget
      have hst : Hid (peersT 32 (ps.take (k + 1)) = peersT 32 (ps.take k) ++ numT (if k = 0 then 32 else 44) s) := peers_take _ _ _ _ hget
      have hsz := hz s (List.mem_of_getElem? hget)
      have hL : (l ++ peersT 32 (ps.take k)).length ≤ 900000000 := by
        have h1 := peersT_len (ps.take k) 32 (fun y hy => hz y (List.mem_of_mem_take hy))
        have h2 : (ps.take k).length ≤ 1000 := by rw [List.length_take]; omega
        rw [List.length_append]
        omega
      obtain ⟨c, hcc⟩ : ∃ c : UInt8, (if k = 0 then (32 : UInt8) else 44) = c := ⟨_, rfl⟩
      have hc7 : c.toNat ≤ 127 := by rw [← hcc]; split <;> decide
      have hci : (if k = 0 then (32 : Int) else 44) = c.toNat := by rw [← hcc]; split <;> decide
      rw [hcc] at hst
      rw [hci]
      have kw := number_l B b _ c c.toNat s wr hsz rfl hc7 hA hL (Nat.le_trans hBw hb.size) (hT.on hb)
      clear hget hs hS hz hL hsz hci hcc
      go_wp2_with (go_at_call 47; refine kw.mono ?_; rintro e w2 ⟨rfl, h2, hb2, hf2⟩)
      go_roundw
      case rel => exact ⟨k + 1, hlt, by go_num, rfl, (by rw [hst.out, ← List.append_assoc]; exact h2), hb.trans hb2, hf.trans hf2⟩
      case measure => simp [intOf]; omega
    · have e1 : k = ps.length := by omega
      rw [e1, List.take_length] at hA
      subst e1
      obtain ⟨s4, hs4⟩ : ∃ s4, (if ps.length = 0 then (32 : Int) else 44) = s4 := ⟨_, rfl⟩
      rw [hs4]
      clear hS hz hs4
      go_wp2
      go_end0
      exact ⟨rfl, hA, hb, hf⟩

end Go.Proofs.YtmldpihjndafaabDoor
