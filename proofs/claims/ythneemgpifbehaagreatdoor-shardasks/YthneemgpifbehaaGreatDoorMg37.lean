/- The contracts of twice and Gang of package spec. -/
import Derived.Test.YthneemgpifbehaaGreatDoorMg36
import Derived.Test.YthneemgpifbehaaGreatDoorMg06
namespace Go.Proofs.YthneemgpifbehaaGreatDoor
open Go.RowKit

/-- Rows of pods, whatever they ask for. -/
def gPods (w : World) (a : Option Addr) (l : List PodT) : Prop :=
  l.length ≤ 1000 ∧ ∀ i p, l[i]? = some p → ∃ B o, a = some ⟨B, o, none⟩ ∧ PodAt w B (o + i * 7) p ∧ Strs w p.pa p.ps ∧ Strs w p.ba p.bs
theorem gPods.later {w w1 : World} {a : Option Addr} {l : List PodT} (h : gPods w a l) (hb : Below w.heap.size w w1) : gPods w1 a l :=
  ⟨h.1, fun i p hp => by
    obtain ⟨B, o, ha, h1, h2, h3⟩ := h.2 i p hp
    exact ⟨B, o, ha, h1.later hb, h2.later hb, h3.later hb⟩⟩
theorem Pods.weak {w : World} {a : Option Addr} {l : List PodT} (h : Pods w a l) (hl : l.length ≤ 1000) : gPods w a l :=
  ⟨hl, fun i p hp => by
    obtain ⟨B, o, ha, h1, h2⟩ := h i p hp
    exact ⟨B, o, ha, h1, h2.h1, h2.h2⟩⟩

/-- Has one of these pods this name? -/
def inN (s : ByteArray) (l : List PodT) : Bool := l.any fun q => s.toList == q.name.toList
/-- Has one of the later ones the name of one ahead of it? -/
def twB : List PodT → List PodT → Bool
  | _, [] => false
  | pre, p :: r => inN p.name pre || twB (pre ++ [p]) r
/-- The error of a pod. -/
def PodT.err (p : PodT) (S : Int) : Int := podE p.name p.shard p.cpu p.mem p.ps p.bs S
/-- The first error of these pods. -/
def firstE (S : Int) : List PodT → Int
  | [] => 0
  | p :: r => if p.err S = 0 then firstE S r else p.err S
/-- What Gang answers. -/
def sgangE (id : Int) (l : List PodT) (S : Int) : Int :=
  if id < 1 ∨ 999999 < id then 2 else if l.length < 1 ∨ 8 < l.length then 3 else if firstE S l = 0 then (if twB [] l then 4 else 0) else firstE S l

theorem gpods_drop (l : List PodT) (k : Nat) (h : k < l.length) : l.drop k = l[k] :: l.drop (k + 1) := List.drop_eq_getElem_cons h
theorem gpods_take (l : List PodT) (k : Nat) (h : k < l.length) : l.take (k + 1) = l.take k ++ [l[k]] := by
  rw [List.take_add_one, List.getElem?_eq_getElem h]; rfl

set_option maxRecDepth 100000 in
set_option maxHeartbeats 4000000 in
theorem gtwice_any (a : Option Addr) (c n : Nat) (l : List PodT) (w : World) (hl : l.length = n) (hnc : n ≤ c) (hP : gPods w a l) :
    Calls Tryz.prog 240 #[.slice a n c] w fun e w' => e = .returned (.bool (twB [] l)) ∧ Below w.heap.size w w' := by
  have hn := hP.1
  rw [hl] at hn
  obtain ⟨A, hA⟩ : ∃ A, twB [] l = A := ⟨_, rfl⟩
  have HA : Hid (twB (l.take 0) (l.drop 0) = A) := by show _ = _; simpa using hA
  rw [hA]
  clear hA
  go_enter Tryz.func240, Tryz.ntmps240
  go_wp2
  go_loopw [9] (fun i wr => ∃ k : Nat, k ≤ n ∧ i = .int .i64 k ∧ Hid (twB (l.take k) (l.drop k) = A) ∧ Below w.heap.size w wr) (fun i _ => n - (intOf i).toNat)
  case atStart => exact ⟨0, Nat.zero_le _, rfl, HA, Below.refl _ _⟩
  case round =>
    obtain ⟨k, hk, rfl, HS, hbw⟩ := hrel
    clear HA
    have hPr := hP.later hbw
    by_cases hlt : k < n
    · obtain ⟨B, o, rfl, hat, hok⟩ := hPr.2 k _ (List.getElem?_eq_getElem (by omega))
      have hd := gpods_drop l k (by omega)
      have ht := gpods_take l k (by omega)
      obtain ⟨p, hp⟩ : ∃ p, l[k] = p := ⟨_, rfl⟩
      rw [hp] at hat hok hd ht
      obtain ⟨s, shard, cpu, mem, pa, pc, ps, ba, bc, bs, al⟩ := p
      obtain ⟨d0, d1, d2, d3, d4, d5, d6⟩ := hat
      simp only at d0 d1 d2 d3 d4 d5 d6
      have H2 : Hid (A = (inN s ((l.take k).drop 0) || twB (l.take (k + 1)) (l.drop (k + 1)))) := by
        show _ = _
        rw [← HS.out, hd, ht]; rfl
      have hkl : (l.take k).length = k := by simp; omega
      clear HS hd ht hok hp
      go_wp2
      go_loopw [18] (fun i wi => ∃ m : Nat, m ≤ k ∧ i = .int .i64 m ∧ Hid (A = (inN s ((l.take k).drop m) || twB (l.take (k + 1)) (l.drop (k + 1)))) ∧ Below w.heap.size w wi ∧ wi.cell? ⟨wr.heap.size, 0, none⟩ = some (.string s)) (fun i _ => k - (intOf i).toNat)
      case atStart => exact ⟨0, Nat.zero_le _, rfl, H2, up hbw _, by simp⟩
      case round =>
        obtain ⟨m, hm, rfl, HS2, hbi, hcs⟩ := hrel
        clear H2 d0 d1 d2 d3 d4 d5 d6
        have hPi := hP.later hbi
        by_cases hlm : m < k
        · obtain ⟨B', o', hx, hat, hok⟩ := hPi.2 m _ (List.getElem?_eq_getElem (by omega))
          obtain ⟨rfl, rfl⟩ : B = B' ∧ o = o' := by simpa using hx
          have hd : (l.take k).drop m = l[m] :: (l.take k).drop (m + 1) := by
            rw [List.drop_eq_getElem_cons (by omega)]; simp
          obtain ⟨p, hp⟩ : ∃ p, l[m] = p := ⟨_, rfl⟩
          rw [hp] at hat hok hd
          obtain ⟨t, shard', cpu', mem', pa', pc', ps', ba', bc', bs', al'⟩ := p
          obtain ⟨d0, d1, d2, d3, d4, d5, d6⟩ := hat
          simp only at d0 d1 d2 d3 d4 d5 d6
          obtain ⟨b, hb⟩ : ∃ b, (s.toList == t.toList) = b := ⟨_, rfl⟩
          have H3 : Hid (A = (b || inN s ((l.take k).drop (m + 1)) || twB (l.take (k + 1)) (l.drop (k + 1)))) := by
            show _ = _
            rw [HS2.out, hd, ← hb]; rfl
          have hc2 := fun o => cell_alloc hcs o
          clear HS2 hd hok hp hx hP hPr hPi
          cases b
          all_goals
            go_wp2
            first
            | (go_roundw
               case rel => exact ⟨m + 1, hlm, by go_num, (by show _ = _; rw [H3.out]; first | done | rfl | simp), up hbi _, hc2 _⟩
               case measure => simp [intOf]; omega)
            | (go_ret
               exact ⟨by rw [H3.out]; rfl, up hbi _⟩)
        · have e1 : m = k := by omega
          have e2 : Hid (twB (l.take (k + 1)) (l.drop (k + 1)) = A) := by
            show _ = _
            have e3 : (l.take k).drop k = [] := List.drop_of_length_le (by omega)
            rw [HS2.out, e1, e3]; rfl
          clear HS2 hP hPr hPi
          go_wp2
          go_roundw
          case rel => exact ⟨k + 1, hlt, by go_num, e2, hbi⟩
          case measure => simp [intOf]; omega
    · have e1 : k = n := by omega
      have e2 : A = false := by rw [← HS.out, e1, List.drop_of_length_le (by omega)]; cases l.take n <;> rfl
      subst e2
      clear hP hPr
      go_wp2
      go_ret
      exact ⟨rfl, hbw⟩

theorem gpod_is (s : ByteArray) (shard cpu mem : Int) (a1 a2 : Option Addr) (n1 n2 c1 c2 : Nat) (al : Bool) (xs ys : List ByteArray) (S e0 : Int) (w0 w : World) (hb : Below w0.heap.size w0 w) (h1 : Strs w a1 xs) (h2 : Strs w a2 ys) (e1 : xs.length = n1) (e2 : ys.length = n2) (he : podE s shard cpu mem xs ys S = e0) :
    Calls Tryz.prog 239 #[.agg #[.string s, .int .i64 shard, .int .i64 cpu, .int .i64 mem, .slice a1 n1 c1, .slice a2 n2 c2, .bool al], .int .i64 S] w fun e w' =>
      e = .returned (.int .i64 e0) ∧ Below w0.heap.size w0 w' ∧ Below w.heap.size w w' := by
  subst he
  exact (pod_any s shard cpu mem a1 a2 n1 n2 c1 c2 al xs ys S w h1 h2 e1 e2).mono fun _ _ h => ⟨h.1, hb.trans (h.2.mono hb.size), h.2⟩

set_option maxRecDepth 100000 in
set_option maxHeartbeats 4000000 in
theorem sgang_any (id S : Int) (a : Option Addr) (c n : Nat) (l : List PodT) (w : World) (hl : l.length = n) (hnc : n ≤ c) (hP : gPods w a l) :
    Calls Tryz.prog 192 #[.agg #[.int .i64 id, .slice a n c], .int .i64 S] w fun e w' => e = .returned (.int .i64 (sgangE id l S)) ∧ Below w.heap.size w w' := by
  have hn := hP.1
  rw [hl] at hn
  obtain ⟨A, hA⟩ : ∃ A, sgangE id l S = A := ⟨_, rfl⟩
  rw [hA]
  unfold sgangE at hA
  rw [hl] at hA
  by_cases i1 : id < 1
  · rw [if_pos (.inl i1)] at hA
    subst hA
    go_enter Tryz.func192, Tryz.ntmps192
    go_wp2
    go_ret
    exact ⟨rfl, up (Below.refl _ _) _⟩
  by_cases i2 : 999999 < id
  · rw [if_pos (.inr i2)] at hA
    subst hA
    go_enter Tryz.func192, Tryz.ntmps192
    go_wp2
    go_ret
    exact ⟨rfl, up (Below.refl _ _) _⟩
  rw [if_neg (by omega)] at hA
  by_cases i3 : (n : Int) < 1
  · rw [if_pos (by omega)] at hA
    subst hA
    go_enter Tryz.func192, Tryz.ntmps192
    go_wp2
    go_ret
    exact ⟨rfl, up (Below.refl _ _) _⟩
  by_cases i4 : (8 : Int) < n
  · rw [if_pos (by omega)] at hA
    subst hA
    go_enter Tryz.func192, Tryz.ntmps192
    go_wp2
    go_ret
    exact ⟨rfl, up (Below.refl _ _) _⟩
  rw [if_neg (by omega)] at hA
  have kt := fun W (h : Below w.heap.size w W) => gtwice_any a c n l W hl hnc (hP.later h)
  obtain ⟨t, ht⟩ : ∃ t, twB [] l = t := ⟨_, rfl⟩
  rw [ht] at hA
  simp only [ht] at kt
  have HA : Hid ((if firstE S (l.drop 0) = 0 then (if t then 4 else 0) else firstE S (l.drop 0)) = A) := hA
  clear hA ht
  go_enter Tryz.func192, Tryz.ntmps192
  go_wp2
  have hc0 : ∀ W, Below (w.heap.size + 1) (w.alloc (.cells #[.int .i64 id, .slice a n c] 238)) W → W.cell? ⟨w.heap.size, 1, none⟩ = some (.slice a n c) := fun W h => by
    rw [h.cell (by simp)]; simp
  go_loopw [29] (fun i wr => ∃ k : Nat, k ≤ n ∧ i = .int .i64 k ∧ Hid ((if firstE S (l.drop k) = 0 then (if t then 4 else 0) else firstE S (l.drop k)) = A) ∧ Below w.heap.size w wr ∧ w.heap.size + 1 ≤ wr.heap.size ∧ wr.cell? ⟨w.heap.size, 1, none⟩ = some (.slice a n c)) (fun i _ => n - (intOf i).toNat)
  case atStart => exact ⟨0, Nat.zero_le _, rfl, HA, up (Below.refl _ _) _, by simp, by simp⟩
  case round =>
    obtain ⟨k, hk, rfl, HS, hbw, hws, hcg⟩ := hrel
    clear HA hc0
    have hPr := hP.later hbw
    by_cases hlt : k < n
    · obtain ⟨B, o, rfl, hat, hok⟩ := hPr.2 k _ (List.getElem?_eq_getElem (by omega))
      have hd := gpods_drop l k (by omega)
      obtain ⟨p, hp⟩ : ∃ p, l[k] = p := ⟨_, rfl⟩
      rw [hp] at hat hok hd
      obtain ⟨s, shard, cpu, mem, pa, pc, ps, ba, bc, bs, al⟩ := p
      obtain ⟨d0, d1, d2, d3, d4, d5, d6⟩ := hat
      obtain ⟨g1, g2⟩ := hok
      simp only at d0 d1 d2 d3 d4 d5 d6 g1 g2
      obtain ⟨e0, he0⟩ : ∃ e0, podE s shard cpu mem ps bs S = e0 := ⟨_, rfl⟩
      have H2 : Hid ((if (if e0 = 0 then firstE S (l.drop (k + 1)) else e0) = 0 then (if t then 4 else 0) else (if e0 = 0 then firstE S (l.drop (k + 1)) else e0)) = A) := by
        show _ = _
        rw [← HS.out, hd, ← he0]; rfl
      have kp := fun o => gpod_is s shard cpu mem pa ba ps.length bs.length pc bc al ps bs S e0 w (wr.alloc o) (up hbw o) (g1.later (up (Below.refl _ _) o)) (g2.later (up (Below.refl _ _) o)) rfl rfl he0
      clear HS hd hp hP hPr g1 g2 he0 kt
      obtain ⟨n1, hn1⟩ : ∃ n1, ps.length = n1 := ⟨_, rfl⟩
      obtain ⟨n2, hn2⟩ : ∃ n2, bs.length = n2 := ⟨_, rfl⟩
      rw [hn1] at d4 kp
      rw [hn2] at d5 kp
      clear hn1 hn2
      by_cases h0 : e0 = 0
      · subst h0
        simp only [if_true] at H2
        go_wp2_with (go_at_call 239; refine (kp _).mono ?_; rintro e w3 ⟨rfl, hb3, hb4⟩)
        go_roundw
        case rel => exact ⟨k + 1, hlt, by go_num, H2, hb3, by have := hb4.size; simp at this; omega, cell_below hb4 (cell_alloc hcg _) (by simp; omega)⟩
        case measure => simp [intOf]; omega
      · simp only [h0, if_false] at H2
        have e1 : e0 = A := H2
        subst e1
        go_wp2_with (go_at_call 239; refine (kp _).mono ?_; rintro e w3 ⟨rfl, hb3, hb4⟩)
        go_ret
        exact ⟨rfl, hb3⟩
    · have e1 : k = n := by omega
      have e2 : Hid ((if t then 4 else 0) = A) := by show _ = _; rw [← HS.out, e1, List.drop_of_length_le (by omega)]; rfl
      have kt2 := kt wr hbw
      clear HS kt hP hPr
      cases t
      all_goals
        have e3 := e2.out
        simp only [if_true, if_false, Bool.false_eq_true] at e3
        subst e3
        go_wp2_with (go_at_call 240; refine kt2.mono ?_; rintro e w3 ⟨rfl, hb3⟩)
        go_ret
        exact ⟨rfl, hbw.trans (hb3.mono hbw.size)⟩

end Go.Proofs.YthneemgpifbehaaGreatDoor
