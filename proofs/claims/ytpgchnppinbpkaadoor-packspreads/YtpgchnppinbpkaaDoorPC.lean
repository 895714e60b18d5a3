/- Package pack: places for all pods, one behind the other. -/
import Derived.Test.YtpgchnppinbpkaaDoorPB
namespace Go.Proofs.YtpgchnppinbpkaaDoor
open Go.RowKit Go.Maps
set_option linter.unusedSimpArgs false
set_option linter.unusedVariables false

/-- A pod's seven cells lie from here on. -/
def PodAt (w : World) (B o : Nat) (p : PodT) : Prop :=
  w.cell? ⟨B, o, none⟩ = some (.string p.name) ∧ w.cell? ⟨B, o + 1, none⟩ = some (.int .i64 p.shard) ∧ w.cell? ⟨B, o + 2, none⟩ = some (.int .i64 p.cpu) ∧ w.cell? ⟨B, o + 3, none⟩ = some (.int .i64 p.mem) ∧
  w.cell? ⟨B, o + 4, none⟩ = some (.slice p.pa p.ps.length p.pc) ∧ w.cell? ⟨B, o + 5, none⟩ = some (.slice p.ba p.bs.length p.bc) ∧ w.cell? ⟨B, o + 6, none⟩ = some (.bool p.al)
theorem PodAt.later {w w1 : World} {B o : Nat} {p : PodT} (h : PodAt w B o p) (hb : Below w.heap.size w w1) : PodAt w1 B o p := by
  obtain ⟨h0, h1, h2, h3, h4, h5, h6⟩ := h
  have hB := block_lt h0
  exact ⟨cell_below hb h0 hB, cell_below hb h1 hB, cell_below hb h2 hB, cell_below hb h3 hB, cell_below hb h4 hB, cell_below hb h5 hB, cell_below hb h6 hB⟩
/-- A row of pods in memory. -/
def Pods (w : World) (a : Option Addr) (l : List PodT) : Prop :=
  ∀ i p, l[i]? = some p → ∃ B o, a = some ⟨B, o, none⟩ ∧ PodAt w B (o + i * 7) p ∧ p.Ok w
theorem Pods.later {w w1 : World} {a : Option Addr} {l : List PodT} (h : Pods w a l) (hb : Below w.heap.size w w1) : Pods w1 a l := fun i p hp => by
  obtain ⟨B, o, ha, h1, h2⟩ := h i p hp
  exact ⟨B, o, ha, h1.later hb, h2.later hb⟩
theorem NodeAt.later {w w1 : World} {B o : Nat} {r : Rec} (h : NodeAt w B o r) (hb : Below w.heap.size w w1) : NodeAt w1 B o r := by
  obtain ⟨h0, h1, h2, h3, h4, h5⟩ := h
  have hB := block_lt h0
  exact ⟨cell_below hb h0 hB, cell_below hb h1 hB, cell_below hb h2 hB, cell_below hb h3 hB, cell_below hb h4 hB, cell_below hb h5 hB⟩
theorem Nds.later {w w1 : World} {base : Nat} {a : Option Addr} {l : List Rec} (h : Nds w base a l) (hb : Below w.heap.size w w1) : Nds w1 base a l := fun i r hr => by
  obtain ⟨B, ha, h1, h2, h3, h4⟩ := h i r hr
  exact ⟨B, ha, h1, Nat.lt_of_lt_of_le h2 hb.size, h3.later hb, h4.later hb⟩

/-- The place of a pod on a node. -/
def plP (p : PodT) (s : ByteArray) : Pl := ⟨p.name, s, p.cpu, p.mem, p.al⟩
/-- Places for all of them, behind those that are laid, the last one first. -/
def layR (G : List (Int × Grp)) (mode : Int) (R : List Rec) : List Pl → List PodT → Option (List Pl)
  | l, [] => some l
  | l, p :: t => match bestR G l mode p R with
    | none => none
    | some s => layR G mode R (plP p s :: l) t

theorem best_mem {G : List (Int × Grp)} {l : List Pl} {mode : Int} {p : PodT} {R : List Rec} {s : ByteArray} (h : bestR G l mode p R = some s) : ∃ r ∈ R, r.nm = s ∧ whyR G l p r = 0 := by
  unfold bestR at h
  split at h
  · cases h
  · rename_i h0
    simp only [Option.some.injEq] at h
    have hl : 0 < (candR G l p R).length := by
      cases hc : candR G l p R with
      | nil => exact absurd hc h0
      | cons x t => simp
    have hb := bst_lt ((candR G l p R).map (·.nm)) ((candR G l p R).map (scR G l mode p)) (candR G l p R).length
    have hb0 := bst_ge ((candR G l p R).map (·.nm)) ((candR G l p R).map (scR G l mode p)) (candR G l p R).length hl
    obtain ⟨j, hj⟩ : ∃ j : Nat, bstAt ((candR G l p R).map (·.nm)) ((candR G l p R).map (scR G l mode p)) (candR G l p R).length = j := ⟨(bstAt ((candR G l p R).map (·.nm)) ((candR G l p R).map (scR G l mode p)) (candR G l p R).length).toNat, by omega⟩
    rw [hj, Int.toNat_natCast] at h
    have hjl : j < (candR G l p R).length := by omega
    have hm := List.getElem_mem hjl
    have hm2 := List.mem_filter.1 hm
    refine ⟨(candR G l p R)[j], hm2.1, ?_, by simpa using hm2.2⟩
    rw [← h]
    simp [List.getD, List.getElem?_eq_getElem hjl]
theorem LaidOk.add {E : List (ByteArray × Rec)} {G : List (Int × Grp)} (hI : Inv E G) {l : List Pl} (hl : LaidOk G l) {mode : Int} {p : PodT} {R : List Rec} {s : ByteArray} (h : bestR G l mode p R = some s) (hp : 0 ≤ p.cpu ∧ 0 ≤ p.mem) (hR : ∀ r ∈ R, r.cpu ≤ 1099511627776 ∧ r.mem ≤ 1099511627776) : LaidOk G (plP p s :: l) := by
  obtain ⟨r, hr, rfl, hw⟩ := best_mem h
  have hg := good_of_why hw (hl.least hI r.nm) hp (hR r hr)
  obtain ⟨g1, g2, g3, g4, g5, g6, g7, g8⟩ := hg
  refine ⟨hl, hp.1, hp.2, ?_, ?_⟩
  · have e : useC G (plP p r.nm :: l) (plP p r.nm).node = useC G l r.nm + p.cpu := by simp only [useC, sW, plP, if_pos]; omega
    rw [e]; omega
  · have e : useM G (plP p r.nm :: l) (plP p r.nm).node = useM G l r.nm + p.mem := by simp only [useM, sW, plP, if_pos]; omega
    rw [e]; omega

set_option maxRecDepth 100000 in
set_option maxHeartbeats 8000000 in
theorem lay_any (L : Nat) (fp : Nat → Prop) (E : List (ByteArray × Rec)) (G : List (Int × Grp)) (hG : G.length ≤ 100) (w : World) (hled : Led w L fp E G) (hT : Tab w)
    (g : Nat) (base n c : Nat) (R : List Rec) (hN : Nds w base (some ⟨g, 0, none⟩) R) (hRl : R.length = n) (hn8 : n ≤ 8) (hRE : ∀ r ∈ R, (r.nm.size ≤ maxLen ∧ r.cpu ≤ 1099511627776 ∧ r.mem ≤ 1099511627776) ∧ (∀ s ∈ r.xs, s.size ≤ maxLen) ∧ ∀ s ∈ r.ys, s.size ≤ maxLen)
    (pa : Option Addr) (m pc : Nat) (ps : List PodT) (hP : Pods w pa ps) (hpl : ps.length = m) (hm8 : m ≤ 8) (mode : Int) :
    Calls Tryd.prog 27 #[roomV L [], .slice (some ⟨g, 0, none⟩) n c, .slice pa m pc, .int .i64 mode] w fun e w' => ∃ a k c, e = .returned (.tuple #[.slice a k c, .bool (layR G mode R [] ps).isSome]) ∧ k = ((layR G mode R [] ps).getD []).length ∧ Pls w' a ((layR G mode R [] ps).getD []).reverse ∧ SP a ∧ (∀ x, a = some x → w.heap.size ≤ x.block ∧ x.block < w'.heap.size) ∧ Below w.heap.size w w' := by
  obtain ⟨A, hA⟩ : ∃ A, layR G mode R [] ps = A := ⟨_, rfl⟩
  rw [hA]
  have HA : Hid (layR G mode R [] (ps.drop 0) = A) := hA
  clear hA
  go_enter Tryd.func27, Tryd.ntmps27
  go_wp2
  go_loopw [0, 16] (fun r i wr => ∃ (k : Nat) (l : List Pl), k ≤ m ∧ i = .int .i64 k ∧ r = roomV L l ∧ l.length = k ∧ LaidOk G l ∧ Hid (layR G mode R l (ps.drop k) = A) ∧ Below w.heap.size w wr) (fun _ i _ => m - (intOf i).toNat)
  case atStart => exact ⟨0, [], Nat.zero_le _, rfl, rfl, rfl, trivial, HA, Below.refl _ _⟩
  case round =>
    obtain ⟨k, l, hk, rfl, rfl, hlk, hlo, HS, hbw⟩ := hrel
    clear HA
    by_cases hlt : k < m
    · obtain ⟨B, o, rfl, hat, hok⟩ := hP k _ (List.getElem?_eq_getElem (show k < ps.length by omega))
      have hd := List.drop_eq_getElem_cons (show k < ps.length by omega)
      have hatr := hat.later hbw
      have hokr := hok.later hbw
      obtain ⟨p, hp⟩ : ∃ p, ps[k]'(by omega) = p := ⟨ps[k]'(by omega), rfl⟩
      rw [hp] at hd hatr hokr
      have kb := pbest_any L fp E G hG l hlo (by omega) (wr.alloc (.cells #[.string p.name, .int .i64 p.shard, .int .i64 p.cpu, .int .i64 p.mem, .slice p.pa p.ps.length p.pc, .slice p.ba p.bs.length p.bc, .bool p.al] 48)) (hled.later (up hbw _)) (hT.later (up hbw _)) g base n c R (hN.later (up hbw _)) hRl hn8 hRE p (hokr.later (up (Below.refl _ _) _)) mode
      unfold PodT.val at kb
      have HS : Hid (A = match bestR G l mode p R with | none => none | some s => layR G mode R (plP p s :: l) (ps.drop (k + 1))) := by
        show _ = _
        rw [← HS.out, hd]; rfl
      have hadd := fun s h => LaidOk.add hled.1 hlo (mode := mode) (p := p) (R := R) (s := s) h hokr.c (fun r hr => (hRE r hr).1.2)
      obtain ⟨bs, hbs⟩ : ∃ bs, bestR G l mode p R = bs := ⟨_, rfl⟩
      rw [hbs] at kb hadd HS
      obtain ⟨d0, d1, d2, d3, d4, d5, d6⟩ := hatr
      have i1 : (k : Int) < m := by omega
      obtain ⟨TT, VV, hV⟩ : ∃ T V, roomV L l = .iface T V := by cases l <;> exact ⟨_, _, rfl⟩
      have HV : Hid _ := hV
      rw [hV] at kb ⊢
      clear hV hat hok hd hp hbs
      cases bs with
      | none =>
        simp only [Option.getD_none, Option.isSome_none] at kb
        have HA : Hid (A = none) := HS.out
        clear HS
        go_wp2_with (go_at_call 51; refine kb.mono ?_; rintro e w3 ⟨rfl, hb3⟩)
        go_ret2
        rw [HA.out]
        exact ⟨none, 0, 0, rfl, rfl, ⟨by simp, by simp⟩, SP.none, (fun x hx => by cases hx), (up hbw _).trans (hb3.mono (up hbw _).size)⟩
      | some s =>
        simp only [Option.getD_some, Option.isSome_some] at kb
        have HA : Hid (layR G mode R (plP p s :: l) (ps.drop (k + 1)) = A) := HS.out.symm
        clear HS
        have hB1 := Box.new wr #[.string p.name, .int .i64 p.shard, .int .i64 p.cpu, .int .i64 p.mem, .slice p.pa p.ps.length p.pc, .slice p.ba p.bs.length p.bc, .bool p.al] 48 rfl
        have hb1 := up hbw (.cells #[.string p.name, .int .i64 p.shard, .int .i64 p.cpu, .int .i64 p.mem, .slice p.pa p.ps.length p.pc, .slice p.ba p.bs.length p.bc, .bool p.al] 48)
        go_wp2_with (go_at_call 51; refine kb.mono ?_; rintro e w3 ⟨rfl, hb3⟩; obtain ⟨x0, x1, x2, x3, x4, x5, x6⟩ := (hB1.later hb3).cells7)
        go_roundw
        case rel => exact ⟨k + 1, plP p s :: l, by omega, by go_num, by rw [roomV, HV.out]; rfl, by simp [hlk], hadd s rfl, HA, hb1.trans (hb3.mono hb1.size)⟩
        case measure => simp [intOf]; omega
    · obtain rfl : k = m := by omega
      rw [List.drop_of_length_le (by omega)] at HS
      have HA : Hid (A = some l) := HS.out.symm
      have kp := placed_any L l (by omega) wr
      clear HS
      go_wp2_with (go_at_call 52; refine kp.mono ?_; rintro e w3 ⟨v, rfl, hv, hb3⟩)
      obtain ⟨a, c', rfl, hPl, hsp, _, _, hn⟩ := pls_own hv (by simp; omega) (by simp)
      go_ret2
      rw [HA.out]
      exact ⟨a, _, c', rfl, rfl, hPl, hsp, (fun x hx => ⟨Nat.le_trans hbw.size (hn x hx).1, (hn x hx).2⟩), hbw.trans (hb3.mono hbw.size)⟩

end Go.Proofs.YtpgchnppinbpkaaDoor
