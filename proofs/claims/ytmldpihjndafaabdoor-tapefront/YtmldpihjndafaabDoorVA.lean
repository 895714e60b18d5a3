/- Make of any kind: such a record is written by the text of its own. -/
import Derived.Test.YtmldpihjndafaabDoorUZ
import Derived.Test.YtmldpihjndafaabDoorUT
import Derived.Test.YtmldpihjndafaabDoorUS
namespace Go.Proofs.YtmldpihjndafaabDoor
open Go.RowKit
set_option linter.unusedSimpArgs false
set_option linter.unusedVariables false

/-- Such a record may be, and that is its text. -/
def CanWrite (B : Nat) (w : World) (v : Value) (t : ByteArray) : Prop := ∃ x0 x1 x2 x3 x4 x5 x6 x7 x8 x9, v = .agg #[x0, x1, x2, x3, x4, x5, x6, x7, x8, x9] ∧
  (∀ W, Below w.heap.size w W → Calls Tryd.prog 15 #[.agg #[x0, x1, x2, x3, x4, x5, x6, x7, x8, x9]] W fun e W' => e = .returned (.int .i64 0) ∧ Below W.heap.size W W') ∧
  (∀ W, Below w.heap.size w W → Calls Tryd.prog 16 #[.agg #[x0, x1, x2, x3, x4, x5, x6, x7, x8, x9]] W fun e W' => e = .returned (.string t) ∧ Below W.heap.size W W')

theorem CanWrite.later {B : Nat} {w w' : World} {v : Value} {t : ByteArray} (h : CanWrite B w v t) (hb : Below w.heap.size w w') : CanWrite B w' v t := by
  obtain ⟨x0, x1, x2, x3, x4, x5, x6, x7, x8, x9, h0, h1, h2⟩ := h
  exact ⟨x0, x1, x2, x3, x4, x5, x6, x7, x8, x9, h0, fun W hW => h1 W (fin hW hb), fun W hW => h2 W (fin hW hb)⟩

theorem InB.low {B : Nat} {w : World} {a : Option Addr} (h : InB B w a) : Low w.heap.size a := fun x hx => (h x hx).2
theorem InB.lowS {w W : World} {a : Option Addr} (h : Low w.heap.size a) (hb : Below w.heap.size w W) : Low W.heap.size a := fun x hx => Nat.lt_of_lt_of_le (h x hx) hb.size

theorem names_short : ∀ s ∈ names, s.size ≤ 10000 := by decide +kernel
theorem nameAt_short (x : Int) : (nameAt x).size ≤ 10000 := names_short _ (nameAt_mem x)

theorem pod_names : ∀ i : Fin 8, isName (podN i.val) = true := by decide +kernel
theorem pod_apart : ∀ i j : Fin 8, j.val < i.val → podN i.val ≠ podN j.val := by decide +kernel
theorem pod_short : ∀ i : Fin 8, (podN i.val).size ≤ 10000 := by decide +kernel

theorem placesTo_get (len : Nat) (zs : List Int) : ∀ m i, i < m → (placesTo len zs m)[i]? = some (placeM i (numAt len zs i))
  | 0, i, h => by omega
  | m + 1, i, h => by
    rw [placesTo]
    by_cases e : i < m
    · rw [List.getElem?_append_left (by rw [placesTo_len]; exact e)]
      exact placesTo_get len zs m i e
    · have : i = m := by omega
      subst this
      rw [List.getElem?_append_right (by rw [placesTo_len]; exact Nat.le_refl _), placesTo_len]
      simp

theorem placesTo_is (len : Nat) (zs : List Int) (m i : Nat) (p : PlaceB) (h : (placesTo len zs m)[i]? = some p) : i < m ∧ p = placeM i (numAt len zs i) := by
  have hi : i < m := by have := (List.getElem?_eq_some_iff.1 h).1; rw [placesTo_len] at this; exact this
  rw [placesTo_get len zs m i hi] at h
  injection h with h
  exact ⟨hi, h.symm⟩

theorem placesN_pos (len : Nat) : 1 ≤ placesN len ∧ placesN len ≤ 8 := by unfold placesN; split <;> omega

theorem placesTo_apart (len : Nat) (zs : List Int) (m : Nat) (hm : m ≤ 8) : Apart (placesTo len zs m) := by
  intro i j p q hji hp hq
  obtain ⟨hi, rfl⟩ := placesTo_is len zs m i p hp
  obtain ⟨hj, rfl⟩ := placesTo_is len zs m j q hq
  exact pod_apart ⟨i, by omega⟩ ⟨j, by omega⟩ hji

theorem tdiv8 (z : Int) : 0 ≤ wrap64 (z.tdiv 8) % 1099511627777 ∧ wrap64 (z.tdiv 8) % 1099511627777 < 1099511627777 := ⟨Int.emod_nonneg _ (by decide), Int.emod_lt_of_pos _ (by decide)⟩

theorem placeM_few (i : Nat) (z : Int) (h : i < 8) : FewP (placeM i z) := by
  have h1 := tdiv8 z
  have h2 : (z % 9).toNat < 9 := by omega
  refine ⟨pod_short ⟨i, h⟩, nameAt_short z, ?_, ?_⟩
  · show (wrap64 (z.tdiv 8) % 1099511627777).toNat ≤ _
    omega
  · show (z % 9).toNat ≤ _
    omega

theorem placeM_ok (i : Nat) (z : Int) (h : i < 8) : placeE (placeM i z) = 0 := by
  have h1 := tdiv8 z
  have e2 : sizeB (placeM i z).cpu (placeM i z).mem = true := by
    unfold sizeB placeM
    simp
    omega
  unfold placeE podE askE
  rw [e2, show isName (placeM i z).node = true from name_ok z, show isName (placeM i z).pod = true from pod_names ⟨i, h⟩]
  rfl

theorem placesTo_all (len : Nat) (zs : List Int) (m : Nat) (hm : m ≤ 8) (P : PlaceB → Prop) (h : ∀ i z, i < 8 → P (placeM i z)) : ∀ p ∈ placesTo len zs m, P p := by
  intro p hp
  obtain ⟨i, hi, e⟩ := List.mem_iff_getElem.1 hp
  have := placesTo_is len zs m i p (by rw [List.getElem?_eq_getElem hi, e])
  rw [this.2]
  exact h i _ (by omega)

theorem place_get (qs : List PlaceB) : ∀ (i : Nat) (p : PlaceB) (j : Nat), qs[i]? = some p → j < 5 → (qs.flatMap placeCells)[i * 5 + j]? = (placeCells p)[j]? := by
  induction qs with
  | nil => intro i p j h _; simp at h
  | cons q qs ih =>
    intro i p j h hj
    have hl : (placeCells q).length = 5 := rfl
    cases i with
    | zero =>
      simp at h
      subst h
      rw [List.flatMap_cons, List.getElem?_append_left (by rw [hl]; omega)]
      simp
    | succ i =>
      rw [List.flatMap_cons, List.getElem?_append_right (by rw [hl]; omega), hl, show (i + 1) * 5 + j - 5 = i * 5 + j by omega]
      exact ih i p j (by simpa using h) hj

theorem pls_of {w : World} {base n c : Nat} {a : Option Addr} {qs : List PlaceB} (h : w.ownsRow base 56 5 (.slice a n c) n (qs.flatMap placeCells)) (hn : qs.length = n) : Pls w a qs ∧ InB base w a ∧ n ≤ c := by
  rcases h.2 with ⟨h0, h1⟩ | ⟨g, cap, cur, h0, hg, hh, hcap, _⟩
  · injection h0 with e1 e2 e3
    subst e1
    exact ⟨fun i p hp => by have := (List.getElem?_eq_some_iff.1 hp).1; omega, InB.nil _ _, by omega⟩
  · injection h0 with e1 e2 e3
    subst e1 e3
    refine ⟨fun i p hp => ⟨g, 0, rfl, ?_⟩, fun x hx => by cases hx; exact ⟨hg, (Array.getElem?_eq_some_iff.1 hh).1⟩, hcap⟩
    have cs := h.cells (g := g) rfl
    have c : ∀ (j : Nat) (u : Value), j < 5 → (placeCells p)[j]? = some u → w.cell? ⟨g, i * 5 + j, none⟩ = some u := by
      intro j u hj hu
      have := cs (i * 5 + j) u (by rw [place_get qs i p j hp hj]; exact hu)
      unfold Addr.add at this
      simp only [Nat.zero_add] at this
      split at this
      · rename_i h0
        have e0 : i * 5 + j = 0 := by simpa using h0
        rw [e0]
        exact this
      · exact this
    have z : 0 + i * 5 = i * 5 := Nat.zero_add _
    rw [z]
    exact ⟨c 0 _ (by decide) rfl, c 1 _ (by decide) rfl, c 2 _ (by decide) rfl, c 3 _ (by decide) rfl, c 4 _ (by decide) rfl⟩

set_option maxRecDepth 100000 in
set_option maxHeartbeats 4000000 in
/-- What Make gives may be written. -/
theorem made (kind gang name : Int) (a : Option Addr) (len cap : Nat) (zs : List Int) (w : World) (hrow : HasRow w a len zs) (hT : TabB w.heap.size w) :
    Calls Tryd.prog 7 #[.int .i64 kind, .int .i64 gang, .slice a len cap, .int .i64 name] w fun e w' => ∃ v t, e = .returned v ∧ CanWrite w.heap.size w' v t ∧ Below w.heap.size w w' := by
  have hg0 : 0 ≤ gang % 999999 ∧ gang % 999999 < 999999 := ⟨Int.emod_nonneg _ (by decide), Int.emod_lt_of_pos _ (by decide)⟩
  obtain ⟨g, hg⟩ : ∃ g : Nat, gang % 999999 = g := ⟨(gang % 999999).toNat, by omega⟩
  have hg9 : g < 999999 := by omega
  have ez : (1 + (g : Int)) = ((1 + g : Nat) : Int) := by omega
  obtain ⟨G, hG⟩ : ∃ G, 1 + g = G := ⟨_, rfl⟩
  have G1 : 1 ≤ G := by omega
  have G2 : G ≤ 999999 := by omega
  have hk7 : kind % 7 = 0 ∨ kind % 7 = 1 ∨ kind % 7 = 2 ∨ kind % 7 = 3 ∨ kind % 7 = 4 ∨ kind % 7 = 5 ∨ kind % 7 = 6 := by omega
  have pp : ∀ x ∈ peersTo name 4, x ≤ 9223372036854775807 := fun x hx => by have := peersTo_mem name 4 x hx; omega
  have pl : (peersTo name 4).length ≤ 1000 := by have := peersTo_le name 4; omega
  have tab : ∀ {w' W : World}, Below w.heap.size w w' → Below w'.heap.size w' W → TabB W.heap.size W := fun h1 h2 => ((hT.on h1).later h2 h1.size).up (Nat.le_trans h1.size h2.size)
  rcases hk7 with hk | hk | hk | hk | hk | hk | hk
  · refine (make_node kind gang name a len cap zs g w hrow hk hg).mono ?_
    rintro e w' ⟨a3, c3, a4, c4, rfl, h3, h4, hb⟩
    obtain ⟨n, hn⟩ : ∃ n, firstN len zs = n := ⟨_, rfl⟩
    rw [hn] at h3 h4 ⊢
    clear hn
    obtain ⟨cpu, hc⟩ : ∃ cpu : Nat, n % 12 = cpu := ⟨(n % 12).toNat, by omega⟩
    obtain ⟨mem, hm⟩ : ∃ mem : Nat, wrap64 (n.tdiv 12) % 12 = mem := ⟨(wrap64 (n.tdiv 12) % 12).toNat, by omega⟩
    rw [hc, hm]
    have short : ∀ {ss : List ByteArray}, (∀ s ∈ ss, s ∈ four) → ∀ s ∈ ss, s.size ≤ 10000 := fun h s hs => Nat.le_trans (four_short s (h s hs)) (by decide)
    refine ⟨_, _, rfl, ⟨_, _, _, _, _, _, _, _, _, _, rfl, fun W hW => check_node (nameAt name) cpu mem a3 a4 _ c3 _ c4 _ _ _ W (h3.new.1.later hW) (h4.new.1.later hW) rfl rfl (node_ok name n cpu mem (by omega) (by omega)), fun W hW => text_node (nameAt name) cpu mem a3 a4 _ c3 _ c4 _ _ _ W (h3.new.1.later hW) (h4.new.1.later hW) rfl rfl (InB.lowS (fun x hx => (h3.new.2.1 x hx).2) hW) (InB.lowS (fun x hx => (h4.new.2.1 x hx).2) hW) (short h3.sub) (short h4.sub) (nameAt_short name) (by omega) (by omega) (tab hb hW)⟩, hb⟩
  · refine (make_gone kind gang name a len cap zs g w hrow hk hg).mono ?_
    rintro e w' ⟨rfl, hb⟩
    exact ⟨_, _, rfl, ⟨_, _, _, _, _, _, _, _, _, _, rfl, fun W _ => check_gone (nameAt name) W (name_ok name), fun W hW => text_gone (nameAt name) W (nameAt_short name) (tab hb hW)⟩, hb⟩
  · refine (make_three kind gang name a len cap zs g w hrow hk hg).mono ?_
    rintro e w' ⟨a1, c1, a2, c2, rfl, h1, h2, hb⟩
    obtain ⟨q1, i1⟩ := nats_of h1 rfl
    obtain ⟨q2, i2, hcp⟩ := pls_of h2 (placesTo_len len zs _)
    have hp := placesN_pos len
    rw [ez, hG]
    exact ⟨_, _, rfl, ⟨_, _, _, _, _, _, _, _, _, _, rfl, fun W hW => check_three G a1 a2 _ c1 _ c2 _ _ W G1 G2 (q1.later hW) rfl (peersTo_pos name) pl (peersTo_rise name 4 (by decide)) (q2.later hW) (placesTo_len len zs _) hp.1 hp.2 hcp (placesTo_apart len zs _ hp.2) (placesTo_all len zs _ hp.2 _ placeM_ok), fun W hW => text_three G a1 a2 _ c1 _ c2 _ _ W G2 (q1.later hW) rfl pl (InB.lowS i1.low hW) pp (q2.later hW) (placesTo_len len zs _) (by omega) (InB.lowS i2.low hW) (placesTo_all len zs _ hp.2 _ placeM_few) (tab hb hW)⟩, hb⟩
  · refine (make_four kind gang name a len cap zs g w hrow hk hg).mono ?_
    rintro e w' ⟨rfl, hb⟩
    rw [ez, hG]
    exact ⟨_, _, rfl, ⟨_, _, _, _, _, _, _, _, _, _, rfl, fun W _ => check4 G W G1 G2, fun W hW => text_four G W (by omega) (tab hb hW)⟩, hb⟩
  · refine (make_five kind gang name a len cap zs g w hrow hk hg).mono ?_
    rintro e w' ⟨rfl, hb⟩
    rw [ez, hG]
    exact ⟨_, _, rfl, ⟨_, _, _, _, _, _, _, _, _, _, rfl, fun W _ => check5 G W G1 G2, fun W hW => text_five G W (by omega) (tab hb hW)⟩, hb⟩
  · refine (make_six kind gang name a len cap zs g w hrow hk hg).mono ?_
    rintro e w' ⟨rfl, hb⟩
    rw [ez, hG]
    exact ⟨_, _, rfl, ⟨_, _, _, _, _, _, _, _, _, _, rfl, fun W _ => (by have := check_six G W; rwa [gangE_ok G G1 G2] at this), fun W hW => text_six G W (by omega) (tab hb hW)⟩, hb⟩
  · refine (make_seven kind gang name a len cap zs g w hrow hk hg).mono ?_
    rintro e w' ⟨a1, c1, rfl, h1, hb⟩
    obtain ⟨q1, i1⟩ := nats_of h1 rfl
    rw [ez, hG]
    exact ⟨_, _, rfl, ⟨_, _, _, _, _, _, _, _, _, _, rfl, fun W hW => check_seven G a1 _ c1 _ W G1 G2 (q1.later hW) rfl (peersTo_pos name) pl (peersTo_rise name 4 (by decide)), fun W hW => text_seven G a1 _ c1 _ W G2 (q1.later hW) rfl pl (InB.lowS i1.low hW) pp (tab hb hW)⟩, hb⟩

/-- Write of such a record. -/
theorem write_made (B B0 T : Nat) (w : World) (A L : List ByteArray) (s : Bool) (v : Value) (t : ByteArray) (h : St B w T A L s) (hB : B ≤ w.heap.size) (hl : A.length + L.length < 999990) (hv : CanWrite B0 w v t) :
    Calls Tryd.prog 6 #[.pointer (some ⟨T, 0, none⟩), v] w fun e w' => e = .returned (.tuple #[]) ∧ St B w' T A (L ++ [t]) s ∧ Below B w w' := by
  obtain ⟨x0, x1, x2, x3, x4, x5, x6, x7, x8, x9, rfl, h1, h2⟩ := hv
  exact write_st B T w A L s x0 x1 x2 x3 x4 x5 x6 x7 x8 x9 t h hB hl h1 h2

end Go.Proofs.YtmldpihjndafaabDoor
