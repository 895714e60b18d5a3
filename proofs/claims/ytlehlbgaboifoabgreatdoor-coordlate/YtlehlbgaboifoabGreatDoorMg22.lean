/- The contracts of twice and Gang of package spec. -/
import Derived.Test.YtlehlbgaboifoabGreatDoorMg21
import Derived.Test.YtlehlbgaboifoabGreatDoorMg05
import Derived.Test.YtlehlbgaboifoabGreatDoorMg02
namespace Go.Proofs.YtlehlbgaboifoabGreatDoor
open Go.RowKit

/-- Has one of these pods this name? -/
def inN (s : ByteArray) (l : List PodT) : Bool := l.any fun q => s.toList == q.name.toList
/-- Has one of the later ones the name of one ahead of it? -/
def twB : List PodT → List PodT → Bool
  | _, [] => false
  | pre, p :: r => inN p.name pre || twB (pre ++ [p]) r
/-- The error of a pod. -/
def PodT.err (p : PodT) (S : Int) : Int := podE p.name p.shard p.cpu p.mem p.ps p.bs S
/-- The first error of these pods. -/
def firstE (S : Int) : List PodT → Int
  | [] => 0
  | p :: r => if p.err S = 0 then firstE S r else p.err S
/-- What Gang answers. -/
def sgangE (id : Int) (l : List PodT) (S : Int) : Int :=
  if id < 1 ∨ 999999 < id then 2 else if l.length < 1 ∨ 8 < l.length then 3 else if firstE S l = 0 then (if twB [] l then 4 else 0) else firstE S l

theorem pods_drop (l : List PodT) (k : Nat) (h : k < l.length) : l.drop k = l[k] :: l.drop (k + 1) := List.drop_eq_getElem_cons h
theorem pods_take (l : List PodT) (k : Nat) (h : k < l.length) : l.take (k + 1) = l.take k ++ [l[k]] := by
  rw [List.take_add_one, List.getElem?_eq_getElem h]; rfl

set_option maxRecDepth 100000 in
set_option maxHeartbeats 4000000 in
theorem twice_any (a : Option Addr) (c n : Nat) (l : List PodT) (w : World) (hl : l.length = n) (hnc : n ≤ c) (hP : Pods w a l) :
    Calls Tryz.prog 76 #[.slice a n c] w fun e w' => e = .returned (.bool (twB [] l)) ∧ Below w.heap.size w w' := by
  have hn := hP.1
  rw [hl] at hn
  obtain ⟨A, hA⟩ : ∃ A, twB [] l = A := ⟨_, rfl⟩
  have HA : Hid (twB (l.take 0) (l.drop 0) = A) := by show _ = _; simpa using hA
  rw [hA]
  clear hA
  go_enter Tryz.func76, Tryz.ntmps76
  go_wp2
  go_loopw [9] (fun i wr => ∃ k : Nat, k ≤ n ∧ i = .int .i64 k ∧ Hid (twB (l.take k) (l.drop k) = A) ∧ Below w.heap.size w wr) (fun i _ => n - (intOf i).toNat)
  case atStart => exact ⟨0, Nat.zero_le _, rfl, HA, Below.refl _ _⟩
  case round =>
    obtain ⟨k, hk, rfl, HS, hbw⟩ := hrel
    clear HA
    have hPr := hP.later hbw
    by_cases hlt : k < n
    · obtain ⟨B, o, rfl, hat, hok⟩ := hPr.2 k _ (List.getElem?_eq_getElem (by omega))
      have hd := pods_drop l k (by omega)
      have ht := pods_take l k (by omega)
      obtain ⟨p, hp⟩ : ∃ p, l[k] = p := ⟨_, rfl⟩
      rw [hp] at hat hok hd ht
      obtain ⟨s, shard, cpu, mem, pa, pc, ps, ba, bc, bs, al⟩ := p
      obtain ⟨d0, d1, d2, d3, d4, d5, d6⟩ := hat
      simp only at d0 d1 d2 d3 d4 d5 d6
      have H2 : Hid (A = (inN s ((l.take k).drop 0) || twB (l.take (k + 1)) (l.drop (k + 1)))) := by
        show _ = _
        rw [← HS.out, hd, ht]; rfl
      have hkl : (l.take k).length = k := by simp; omega
      clear HS hd ht hok hp
      go_wp2
      go_loopw [18] (fun i wi => ∃ m : Nat, m ≤ k ∧ i = .int .i64 m ∧ Hid (A = (inN s ((l.take k).drop m) || twB (l.take (k + 1)) (l.drop (k + 1)))) ∧ Below w.heap.size w wi ∧ wi.cell? ⟨wr.heap.size, 0, none⟩ = some (.string s)) (fun i _ => k - (intOf i).toNat)
      case atStart => exact ⟨0, Nat.zero_le _, rfl, H2, up hbw _, by simp⟩
      case round =>
        obtain ⟨m, hm, rfl, HS2, hbi, hcs⟩ := hrel
        clear H2 d0 d1 d2 d3 d4 d5 d6
        have hPi := hP.later hbi
        by_cases hlm : m < k
        · obtain ⟨B', o', hx, hat, hok⟩ := hPi.2 m _ (List.getElem?_eq_getElem (by omega))
          obtain ⟨rfl, rfl⟩ : B = B' ∧ o = o' := by simpa using hx
          have hd : (l.take k).drop m = l[m] :: (l.take k).drop (m + 1) := by
            rw [List.drop_eq_getElem_cons (by omega)]; simp
          obtain ⟨p, hp⟩ : ∃ p, l[m] = p := ⟨_, rfl⟩
          rw [hp] at hat hok hd
          obtain ⟨t, shard', cpu', mem', pa', pc', ps', ba', bc', bs', al'⟩ := p
          obtain ⟨d0, d1, d2, d3, d4, d5, d6⟩ := hat
          simp only at d0 d1 d2 d3 d4 d5 d6
          obtain ⟨b, hb⟩ : ∃ b, (s.toList == t.toList) = b := ⟨_, rfl⟩
          have H3 : Hid (A = (b || inN s ((l.take k).drop (m + 1)) || twB (l.take (k + 1)) (l.drop (k + 1)))) := by
            show _ = _
            rw [HS2.out, hd, ← hb]; rfl
          have hc2 := fun o => cell_alloc hcs o
          clear HS2 hd hok hp hx hP hPr hPi
          cases b
          all_goals
            go_wp2
            first
            | (go_roundw
               case rel => exact ⟨m + 1, hlm, by go_num, (by show _ = _; rw [H3.out]; first | done | rfl | simp), up hbi _, hc2 _⟩
               case measure => simp [intOf]; omega)
            | (go_ret
               exact ⟨by rw [H3.out]; rfl, up hbi _⟩)
        · have e1 : m = k := by omega
          have e2 : Hid (twB (l.take (k + 1)) (l.drop (k + 1)) = A) := by
            show _ = _
            have e3 : (l.take k).drop k = [] := List.drop_of_length_le (by omega)
            rw [HS2.out, e1, e3]; rfl
          clear HS2 hP hPr hPi
          go_wp2
          go_roundw
          case rel => exact ⟨k + 1, hlt, by go_num, e2, hbi⟩
          case measure => simp [intOf]; omega
    · have e1 : k = n := by omega
      have e2 : A = false := by rw [← HS.out, e1, List.drop_of_length_le (by omega)]; cases l.take n <;> rfl
      subst e2
      clear hP hPr
      go_wp2
      go_ret
      exact ⟨rfl, hbw⟩

theorem pod_is (s : ByteArray) (shard cpu mem : Int) (a1 a2 : Option Addr) (n1 n2 c1 c2 : Nat) (al : Bool) (xs ys : List ByteArray) (S e0 : Int) (w0 w : World) (hb : Below w0.heap.size w0 w) (h1 : Strs w a1 xs) (h2 : Strs w a2 ys) (e1 : xs.length = n1) (e2 : ys.length = n2) (he : podE s shard cpu mem xs ys S = e0) :
    Calls Tryz.prog 75 #[.agg #[.string s, .int .i64 shard, .int .i64 cpu, .int .i64 mem, .slice a1 n1 c1, .slice a2 n2 c2, .bool al], .int .i64 S] w fun e w' =>
      e = .returned (.int .i64 e0) ∧ Below w0.heap.size w0 w' ∧ Below w.heap.size w w' := by
  subst he
  exact (pod_any s shard cpu mem a1 a2 n1 n2 c1 c2 al xs ys S w h1 h2 e1 e2).mono fun _ _ h => ⟨h.1, hb.trans (h.2.mono hb.size), h.2⟩

set_option maxRecDepth 100000 in
set_option maxHeartbeats 4000000 in
theorem gang_any (id S : Int) (a : Option Addr) (c n : Nat) (l : List PodT) (w : World) (hl : l.length = n) (hnc : n ≤ c) (hP : Pods w a l) :
    Calls Tryz.prog 32 #[.agg #[.int .i64 id, .slice a n c], .int .i64 S] w fun e w' => e = .returned (.int .i64 (sgangE id l S)) ∧ Below w.heap.size w w' := by
  have hn := hP.1
  rw [hl] at hn
  obtain ⟨A, hA⟩ : ∃ A, sgangE id l S = A := ⟨_, rfl⟩
  rw [hA]
  unfold sgangE at hA
  rw [hl] at hA
  by_cases i1 : id < 1
  · rw [if_pos (.inl i1)] at hA
    subst hA
    go_enter Tryz.func32, Tryz.ntmps32
    go_wp2
    go_ret
    exact ⟨rfl, up (Below.refl _ _) _⟩
  by_cases i2 : 999999 < id
  · rw [if_pos (.inr i2)] at hA
    subst hA
    go_enter Tryz.func32, Tryz.ntmps32
    go_wp2
    go_ret
    exact ⟨rfl, up (Below.refl _ _) _⟩
  rw [if_neg (by omega)] at hA
  by_cases i3 : (n : Int) < 1
  · rw [if_pos (by omega)] at hA
    subst hA
    go_enter Tryz.func32, Tryz.ntmps32
    go_wp2
    go_ret
    exact ⟨rfl, up (Below.refl _ _) _⟩
  by_cases i4 : (8 : Int) < n
  · rw [if_pos (by omega)] at hA
    subst hA
    go_enter Tryz.func32, Tryz.ntmps32
    go_wp2
    go_ret
    exact ⟨rfl, up (Below.refl _ _) _⟩
  rw [if_neg (by omega)] at hA
  have kt := fun W (h : Below w.heap.size w W) => twice_any a c n l W hl hnc (hP.later h)
  obtain ⟨t, ht⟩ : ∃ t, twB [] l = t := ⟨_, rfl⟩
  rw [ht] at hA
  simp only [ht] at kt
  have HA : Hid ((if firstE S (l.drop 0) = 0 then (if t then 4 else 0) else firstE S (l.drop 0)) = A) := hA
  clear hA ht
  go_enter Tryz.func32, Tryz.ntmps32
  go_wp2
  have hc0 : ∀ W, Below (w.heap.size + 1) (w.alloc (.cells #[.int .i64 id, .slice a n c] 39)) W → W.cell? ⟨w.heap.size, 1, none⟩ = some (.slice a n c) := fun W h => by
    rw [h.cell (by simp)]; simp
  go_loopw [29] (fun i wr => ∃ k : Nat, k ≤ n ∧ i = .int .i64 k ∧ Hid ((if firstE S (l.drop k) = 0 then (if t then 4 else 0) else firstE S (l.drop k)) = A) ∧ Below w.heap.size w wr ∧ w.heap.size + 1 ≤ wr.heap.size ∧ wr.cell? ⟨w.heap.size, 1, none⟩ = some (.slice a n c)) (fun i _ => n - (intOf i).toNat)
  case atStart => exact ⟨0, Nat.zero_le _, rfl, HA, up (Below.refl _ _) _, by simp, by simp⟩
  case round =>
    obtain ⟨k, hk, rfl, HS, hbw, hws, hcg⟩ := hrel
    clear HA hc0
    have hPr := hP.later hbw
    by_cases hlt : k < n
    · obtain ⟨B, o, rfl, hat, hok⟩ := hPr.2 k _ (List.getElem?_eq_getElem (by omega))
      have hd := pods_drop l k (by omega)
      obtain ⟨p, hp⟩ : ∃ p, l[k] = p := ⟨_, rfl⟩
      rw [hp] at hat hok hd
      obtain ⟨s, shard, cpu, mem, pa, pc, ps, ba, bc, bs, al⟩ := p
      obtain ⟨d0, d1, d2, d3, d4, d5, d6⟩ := hat
      obtain ⟨g1, g2⟩ := hok
      simp only at d0 d1 d2 d3 d4 d5 d6 g1 g2
      obtain ⟨e0, he0⟩ : ∃ e0, podE s shard cpu mem ps bs S = e0 := ⟨_, rfl⟩
      have H2 : Hid ((if (if e0 = 0 then firstE S (l.drop (k + 1)) else e0) = 0 then (if t then 4 else 0) else (if e0 = 0 then firstE S (l.drop (k + 1)) else e0)) = A) := by
        show _ = _
        rw [← HS.out, hd, ← he0]; rfl
      have kp := fun o => pod_is s shard cpu mem pa ba ps.length bs.length pc bc al ps bs S e0 w (wr.alloc o) (up hbw o) (g1.later (up (Below.refl _ _) o)) (g2.later (up (Below.refl _ _) o)) rfl rfl he0
      clear HS hd hp hP hPr g1 g2 he0 kt
      obtain ⟨n1, hn1⟩ : ∃ n1, ps.length = n1 := ⟨_, rfl⟩
      obtain ⟨n2, hn2⟩ : ∃ n2, bs.length = n2 := ⟨_, rfl⟩
      rw [hn1] at d4 kp
      rw [hn2] at d5 kp
      clear hn1 hn2
      by_cases h0 : e0 = 0
      · subst h0
        simp only [if_true] at H2
        go_wp2_with (go_at_call 75; refine (kp _).mono ?_; rintro e w3 ⟨rfl, hb3, hb4⟩)
        go_roundw
        case rel => exact ⟨k + 1, hlt, by go_num, H2, hb3, by have := hb4.size; simp at this; omega, cell_below hb4 (cell_alloc hcg _) (by simp; omega)⟩
        case measure => simp [intOf]; omega
      · simp only [h0, if_false] at H2
        have e1 : e0 = A := H2
        subst e1
        go_wp2_with (go_at_call 75; refine (kp _).mono ?_; rintro e w3 ⟨rfl, hb3, hb4⟩)
        go_ret
        exact ⟨rfl, hb3⟩
    · have e1 : k = n := by omega
      have e2 : Hid ((if t then 4 else 0) = A) := by show _ = _; rw [← HS.out, e1, List.drop_of_length_le (by omega)]; rfl
      have kt2 := kt wr hbw
      clear HS kt hP hPr
      cases t
      all_goals
        have e3 := e2.out
        simp only [if_true, if_false, Bool.false_eq_true] at e3
        subst e3
        go_wp2_with (go_at_call 76; refine kt2.mono ?_; rintro e w3 ⟨rfl, hb3⟩)
        go_ret
        exact ⟨rfl, hbw.trans (hb3.mono hbw.size)⟩

end Go.Proofs.YtlehlbgaboifoabGreatDoor

/- Rows of pods of the call's own. -/
namespace Go.Proofs.YtlehlbgaboifoabGreatDoor
open Go.RowKit Go.Maps

/-- A pod's seven cells. -/
def PodT.cells (p : PodT) : List Value := [.string p.name, .int .i64 p.shard, .int .i64 p.cpu, .int .i64 p.mem, .slice p.pa p.ps.length p.pc, .slice p.ba p.bs.length p.bc, .bool p.al]
/-- The cells of a row of pods. -/
def flat : List PodT → List Value
  | [] => []
  | p :: l => p.cells ++ flat l

theorem flat_length : ∀ l, (flat l).length = l.length * 7
  | [] => rfl
  | p :: l => by simp [flat, PodT.cells, flat_length l]; omega
theorem flat_append : ∀ l r, flat (l ++ r) = flat l ++ flat r
  | [], _ => rfl
  | p :: l, r => by simp [flat, flat_append l r]
theorem flat_one (p : PodT) : flat [p] = p.cells := by simp [flat]
theorem flat_get : ∀ (l : List PodT) (i j : Nat) (p : PodT), l[i]? = some p → j < 7 → (flat l)[i * 7 + j]? = p.cells[j]?
  | [], i, j, p, h, _ => by simp at h
  | q :: l, 0, j, p, h, hj => by
    simp at h
    subst h
    rw [flat, List.getElem?_append_left (by simp [PodT.cells]; omega)]
    simp
  | q :: l, i + 1, j, p, h, hj => by
    simp at h
    rw [flat, List.getElem?_append_right (by simp [PodT.cells]; omega)]
    have : (i + 1) * 7 + j - q.cells.length = i * 7 + j := by simp [PodT.cells]; omega
    rw [this]
    exact flat_get l i j p h hj

theorem infoPod : (Tryz.prog.info? 60).map (fun i => (i.zero, i.size, i.bytes)) = some (some (.agg #[.string ⟨#[]⟩, .int .i64 0, .int .i64 0, .int .i64 0, .slice none 0 0, .slice none 0 0, .bool false]), 7, 96) := by kernel_rfl

theorem own_cell {w : World} {base g n cap : Nat} {e : TypeId} {size : Nat} {xs : List Value} (h : w.ownsRow base e size (.slice (some ⟨g, 0, none⟩) n cap) n xs) (j : Nat) (u : Value) (hu : xs[j]? = some u) : w.cell? ⟨g, j, none⟩ = some u := by
  have := h.cells (g := g) rfl j u hu
  rcases Nat.eq_zero_or_pos j with rfl | hi
  · simpa [Addr.add] using this
  · simpa [Addr.add, show j ≠ 0 by omega] using this

theorem pods_of_own {w : World} {base : Nat} {v : Value} {n : Nat} {l : List PodT} (h : w.ownsRow base 60 7 v n (flat l)) (hok : ∀ p ∈ l, p.Ok w) (hl : l.length ≤ 1000) :
    ∃ a cap, v = .slice a n cap ∧ l.length = n ∧ n ≤ cap ∧ Pods w a l ∧ (a = none → cap = 0) ∧ (∀ x, a = some x → base ≤ x.block ∧ x = ⟨x.block, 0, none⟩) := by
  have hn : l.length = n := by have := h.1; rw [flat_length] at this; omega
  rcases h.2 with ⟨rfl, h0⟩ | ⟨g, cap, cur, rfl, hb, hh, hncap, hrest⟩
  · refine ⟨none, 0, by rw [h0], hn, by omega, ⟨hl, fun i p hp => ?_⟩, fun _ => rfl, (fun x hx => by cases hx)⟩
    have : l = [] := List.length_eq_zero_iff.1 (by omega)
    subst this
    simp at hp
  · refine ⟨some ⟨g, 0, none⟩, cap, rfl, hn, hncap, ⟨hl, fun i p hp => ⟨g, 0, rfl, ?_, hok p (List.mem_of_getElem? hp)⟩⟩, (fun h => by cases h), (fun x hx => by cases hx; exact ⟨hb, rfl⟩)⟩
    have hc := fun j (hj : j < 7) u (hu : p.cells[j]? = some u) => own_cell h (i * 7 + j) u (by rw [flat_get l i j p hp hj]; exact hu)
    rw [Nat.zero_add]
    exact ⟨hc 0 (by omega) _ rfl, hc 1 (by omega) _ rfl, hc 2 (by omega) _ rfl, hc 3 (by omega) _ rfl, hc 4 (by omega) _ rfl, hc 5 (by omega) _ rfl, hc 6 (by omega) _ rfl⟩

theorem cells_oneCell (p : PodT) : ∀ u ∈ p.cells, u.oneCell' = true := by
  intro u hu
  simp only [PodT.cells, List.mem_cons, List.not_mem_nil, or_false] at hu
  rcases hu with rfl | rfl | rfl | rfl | rfl | rfl | rfl <;> rfl

theorem cell_lit (w : World) (cs : Array Value) (t : TypeId) (R j : Nat) (v : Value) (hR : w.heap.size = R) (h : cs[j]? = some v) : (w.alloc (.cells cs t)).cell? ⟨R, j, none⟩ = some v := by
  subst hR
  simp [h]

/-- A block that was just made holds these cells. -/
theorem cells_new (w : World) (xs : List Value) (t : TypeId) (R : Nat) (hR : w.heap.size = R) : ∀ j u, xs[j]? = some u → (w.alloc (.cells xs.toArray t)).cell? ((⟨R, 0, none⟩ : Addr).add j) = some u := by
  intro j u hj
  have := cell_lit w xs.toArray t R j u hR (by simpa using hj)
  rcases Nat.eq_zero_or_pos j with rfl | hi
  · simpa [Addr.add] using this
  · simpa [Addr.add, show j ≠ 0 by omega] using this

/-- The block of a gang that is a variable. -/
def sGBox (w : World) (G : Nat) (id : Int) (v : Value) : Prop := w.heap[G]? = some (.cells #[.int .i64 id, v] 39 (0, 0))

theorem sGBox.new (w : World) (id : Int) (v : Value) : sGBox (w.alloc (.cells #[.int .i64 id, v] 39)) w.heap.size id v := heap_alloc_new w _
theorem sGBox.lt {w : World} {G : Nat} {id : Int} {v : Value} (h : sGBox w G id v) : G < w.heap.size := (Array.getElem?_eq_some_iff.1 h).1
theorem sGBox.cell0 {w : World} {G : Nat} {id : Int} {v : Value} (h : sGBox w G id v) : w.cell? ⟨G, 0, none⟩ = some (.int .i64 id) := by
  unfold sGBox at h; simp [World.cell?, h]
theorem sGBox.cell1 {w : World} {G : Nat} {id : Int} {v : Value} (h : sGBox w G id v) : w.cell? ⟨G, 1, none⟩ = some v := by
  unfold sGBox at h; simp [World.cell?, h]
theorem sGBox.frozen1 {w : World} {G : Nat} {id : Int} {v : Value} (h : sGBox w G id v) (j : Nat) : w.frozen? ⟨G, j, none⟩ = false := by
  unfold sGBox at h; simp [World.frozen?, h]
theorem sGBox.grown {w w' : World} {G : Nat} {id : Int} {v : Value} {row : Option Nat} (h : sGBox w G id v) (hg : w.grownBy w' row) (hne : some G ≠ row) : sGBox w' G id v := by
  unfold sGBox at *
  rw [hg.block G (Array.getElem?_eq_some_iff.1 h).1 hne, h]
theorem sGBox.later {w w' : World} {G : Nat} {id : Int} {v : Value} (h : sGBox w G id v) (hb : Below w.heap.size w w') : sGBox w' G id v := by
  have := h.lt
  unfold sGBox at *
  rw [hb.block G this, h]
theorem sGBox.set {w : World} {G : Nat} {id : Int} {v : Value} (h : sGBox w G id v) (u : Value) : sGBox (w.setCell ⟨G, 1, none⟩ u) G id u := by
  unfold sGBox at *
  rw [heap_setCell_same w G 1 _ _ u h]
  simp
theorem sGBox.other {w : World} {G : Nat} {id : Int} {v : Value} (h : sGBox w G id v) {a : Addr} (ha : G ≠ a.block) (u : Value) : sGBox (w.setCell a u) G id v := by
  unfold sGBox at *
  rw [Below.heap_setCell w a u G ha, h]

theorem own_slice {w : World} {base : Nat} {e : TypeId} {size : Nat} {v : Value} {n : Nat} {xs : List Value} (h : w.ownsRow base e size v n xs) (hn : 0 < n) : ∃ g cap, v = .slice (some ⟨g, 0, none⟩) n cap ∧ base ≤ g ∧ g < w.heap.size ∧ n ≤ cap ∧ cap ≤ maxLen := by
  rcases h.2 with ⟨_, h0⟩ | ⟨g, cap, cur, rfl, hb, hh, hncap, hm, _⟩
  · omega
  · exact ⟨g, cap, rfl, hb, (Array.getElem?_eq_some_iff.1 hh).1, hncap, hm⟩

theorem own_keep {w w' : World} {base : Nat} {e : TypeId} {size : Nat} {v : Value} {n : Nat} {xs : List Value} (h : w.ownsRow base e size v n xs) (hb : Below w.heap.size w w') : w'.ownsRow base e size v n xs := by
  refine ⟨h.1, ?_⟩
  rcases h.2 with h2 | ⟨g, cap, cur, hv, hg, hh, hrest⟩
  · exact .inl h2
  · refine .inr ⟨g, cap, cur, hv, hg, ?_, hrest⟩
    rw [← hh]
    exact hb.block g (Array.getElem?_eq_some_iff.1 hh).1

theorem own_frozen {w : World} {base g n cap : Nat} {e : TypeId} {size : Nat} {xs : List Value} (h : w.ownsRow base e size (.slice (some ⟨g, 0, none⟩) n cap) n xs) (j : Nat) : w.frozen? ⟨g, j, none⟩ = false := by
  rcases h.2 with ⟨h0, _⟩ | ⟨g', cap', cur, h0, hb, hh, _⟩
  · cases h0
  · injection h0 with h1 _ _
    injection h1 with h1
    injection h1 with h1 _ _
    subst h1
    simp [World.frozen?, hh]

theorem flat_set : ∀ (l : List PodT) (i : Nat) (p : PodT) (s : ByteArray), l[i]? = some p → flat (l.set i { p with name := s }) = (flat l).set (i * 7) (.string s)
  | [], i, p, s, h => by simp at h
  | q :: l, 0, p, s, h => by
    simp at h
    subst h
    simp [flat, PodT.cells]
  | q :: l, i + 1, p, s, h => by
    simp at h
    simp only [List.set_cons_succ, flat, flat_set l i p s h]
    rw [List.set_append_right _ _ (by simp [PodT.cells]; omega)]
    congr 2
    simp [PodT.cells]
    omega

end Go.Proofs.YtlehlbgaboifoabGreatDoor

/- What Shards answers: the numbers that there are, rising, none twice. -/
namespace Go.Proofs.YtlehlbgaboifoabGreatDoor
open Go.Lib

theorem strict_ext : ∀ (l r : List Int), l.Pairwise (· < ·) → r.Pairwise (· < ·) → (∀ z, z ∈ l ↔ z ∈ r) → l = r
  | [], [], _, _, _ => rfl
  | [], b :: r, _, _, h => by have := (h b).2 (by simp); simp at this
  | a :: l, [], _, _, h => by have := (h a).1 (by simp); simp at this
  | a :: l, b :: r, hl, hr, h => by
    rw [List.pairwise_cons] at hl hr
    have h1 := (h a).1 (by simp)
    have h2 := (h b).2 (by simp)
    have e : a = b := by
      rcases List.mem_cons.1 h1 with e | e
      · exact e
      · rcases List.mem_cons.1 h2 with e' | e'
        · exact e'.symm
        · have := hl.1 b e'
          have := hr.1 a e
          omega
    subst e
    rw [strict_ext l r hl.2 hr.2 fun z => ⟨fun hz => ?_, fun hz => ?_⟩]
    · rcases List.mem_cons.1 ((h z).1 (by simp [hz])) with e | e
      · have := hl.1 z hz; omega
      · exact e
    · rcases List.mem_cons.1 ((h z).2 (by simp [hz])) with e | e
      · have := hr.1 z hz; omega
      · exact e

theorem compact_step (d : Array Int) (hs : ∀ i j, i ≤ j → j < d.size → d[i]! ≤ d[j]!) : ∀ m, m ≤ d.size →
    (compactUpTo d m).Pairwise (· < ·) ∧ (∀ z ∈ compactUpTo d m, ∃ j, j < m ∧ d[j]! = z) ∧ (∀ j, j < m → d[j]! ∈ compactUpTo d m)
  | 0, _ => by simp [compactUpTo]
  | m + 1, h => by
    obtain ⟨h1, h2, h3⟩ := compact_step d hs m (by omega)
    rw [compactUpTo_succ]
    by_cases hk : keeps d m = true
    · rw [if_pos hk]
      refine ⟨?_, ?_, ?_⟩
      · rw [List.pairwise_append]
        refine ⟨h1, by simp, fun a ha b hb => ?_⟩
        simp only [List.mem_singleton] at hb
        subst hb
        obtain ⟨j, hj, rfl⟩ := h2 a ha
        have e1 := hs j (m - 1) (by omega) (by omega)
        have e2 := hs (m - 1) m (by omega) (by omega)
        simp only [keeps, decide_eq_true_eq] at hk
        omega
      · intro z hz
        rcases List.mem_append.1 hz with hz | hz
        · obtain ⟨j, hj, e⟩ := h2 z hz
          exact ⟨j, by omega, e⟩
        · simp only [List.mem_singleton] at hz
          exact ⟨m, by omega, hz.symm⟩
      · intro j hj
        rcases Nat.lt_or_ge j m with h' | h'
        · exact List.mem_append_left _ (h3 j h')
        · have : j = m := by omega
          subst this
          simp
    · rw [if_neg hk, List.append_nil]
      refine ⟨h1, ?_, ?_⟩
      · intro z hz
        obtain ⟨j, hj, e⟩ := h2 z hz
        exact ⟨j, by omega, e⟩
      · intro j hj
        rcases Nat.lt_or_ge j m with h' | h'
        · exact h3 j h'
        · have : j = m := by omega
          subst this
          simp only [keeps, decide_eq_true_eq] at hk
          have e : d[j]! = d[j - 1]! := by omega
          rw [e]
          exact h3 (j - 1) (by omega)

theorem compact_sorted (l : List Int) (hl : l.Pairwise (· ≤ ·)) : (compact l).Pairwise (· < ·) ∧ ∀ z, z ∈ compact l ↔ z ∈ l := by
  have hs : ∀ i j, i ≤ j → j < l.toArray.size → l.toArray[i]! ≤ l.toArray[j]! := fun i j hij hj => by
    have hj' : j < l.length := by simpa using hj
    rw [getElem!_pos _ i (by simp; omega), getElem!_pos _ j hj]
    rcases Nat.eq_or_lt_of_le hij with e | e
    · subst e; exact Int.le_refl _
    · exact List.pairwise_iff_getElem.1 hl i j (by omega) hj' e
  obtain ⟨h1, h2, h3⟩ := compact_step l.toArray hs l.length (by simp)
  refine ⟨h1, fun z => ⟨fun hz => ?_, fun hz => ?_⟩⟩
  · obtain ⟨j, hj, rfl⟩ := h2 z hz
    rw [getElem!_pos _ j (by simpa using hj)]
    simp
  · obtain ⟨j, hj, rfl⟩ := List.getElem_of_mem hz
    have := h3 j hj
    rw [getElem!_pos _ j (by simpa using hj)] at this
    simpa [compact] using this

theorem shardsB_spec (l : List PodT) : (shardsB l).Pairwise (· < ·) ∧ ∀ z, z ∈ shardsB l ↔ z ∈ shardsOf l := by
  have hp : ((shardsOf l).mergeSort fun x y => decide (x ≤ y)).Pairwise (· ≤ ·) := by
    have := List.pairwise_mergeSort (le := fun x y : Int => decide (x ≤ y)) (fun a b c h1 h2 => by simp at *; omega) (fun a b => by simp; omega) (shardsOf l)
    exact this.imp (fun h => by simpa using h)
  obtain ⟨h1, h2⟩ := compact_sorted _ hp
  exact ⟨h1, fun z => (h2 z).trans List.mem_mergeSort⟩

end Go.Proofs.YtlehlbgaboifoabGreatDoor
