/- Ledgers without gangs, by what their nodes are; pods packed there. -/
import Derived.Test.YtpgchnppinbpkaaDoorK8
namespace Go.Proofs.YtpgchnppinbpkaaDoor
open Go.RowKit Go.Maps
set_option linter.unusedSimpArgs false
set_option linter.unusedVariables false

/-- What a node is. -/
abbrev Core := ByteArray × Int × Int × List ByteArray × List ByteArray × Bool
def recOf (c : Core) : Rec := ⟨c.1, c.2.1, c.2.2.1, none, 0, c.2.2.2.1, none, 0, c.2.2.2.2.1, c.2.2.2.2.2, 0, 0, 0⟩
theorem recOf_core (c : Core) : (recOf c).core = c := rfl
def strip (p : PodT) : PodT := ⟨p.name, p.shard, p.cpu, p.mem, none, 0, p.ps, none, 0, p.bs, p.al⟩
theorem lay_strip (G : List (Int × Grp)) (mode : Int) (R : List Rec) : ∀ (ps : List PodT) (l : List Pl), layR G mode R l ps = layR G mode R l (ps.map strip)
  | [], l => rfl
  | p :: t, l => by
    have h : bestR G l mode (strip p) R = bestR G l mode p R := rfl
    simp only [List.map_cons, layR, h]
    cases bestR G l mode p R with
    | none => rfl
    | some s => exact lay_strip G mode R t _

/-- A ledger without gangs, of these nodes. -/
def LedC (w : World) (L : Nat) (fp : Nat → Prop) (Cs : List Core) : Prop := ∃ E, Led w L fp E [] ∧ E.map (fun e => e.2.core) = Cs
theorem LedC.later {w w' : World} {L : Nat} {fp : Nat → Prop} {Cs : List Core} (h : LedC w L fp Cs) (hb : Below w.heap.size w w') : LedC w' L fp Cs := h.elim fun E h => ⟨E, h.1.later hb, h.2⟩
theorem LedC.outs {w : World} {L : Nat} {fp : Nat → Prop} {Cs : List Core} (h : LedC w L fp Cs) : ∀ b, fp b → b < w.heap.size := h.elim fun _ h => h.1.lt

theorem ins_back {s : ByteArray} {r : Rec} : ∀ {E : List (ByteArray × Rec)}, (∀ e ∈ E, sb e.1 s = true) → ins sK (s, r) E = E ++ [(s, r)]
  | [], _ => rfl
  | y :: t, h => by
    have hy : ¬ (sK s).before (sK y.1) = true := fun hb => by
      have := sb_trans (show sb s y.1 = true from hb) (h y (by simp))
      rw [sb_irrefl] at this
      cases this
    have ih := ins_back (r := r) (E := t) (fun e he => h e (List.mem_cons_of_mem _ he))
    simp only [ins, if_neg hy, ih, List.cons_append]
theorem ins_front {s : ByteArray} {r : Rec} {E : List (ByteArray × Rec)} (h : ∀ e ∈ E, sb s e.1 = true) : ins sK (s, r) E = (s, r) :: E := by
  cases E with
  | nil => rfl
  | cons y t =>
    have hy : (sK s).before (sK y.1) = true := h y (by simp)
    simp only [ins, if_pos hy]
theorem look_off {s : ByteArray} {E : List (ByteArray × Rec)} (h : ∀ e ∈ E, e.1 ≠ s) : look E s = none := by
  cases hl : look E s with
  | none => rfl
  | some r => exact absurd rfl (h _ (mem_of_look hl))

theorem keys_of {w : World} {L : Nat} {fp : Nat → Prop} {E : List (ByteArray × Rec)} {Cs : List Core} (h : Led w L fp E []) (hC : E.map (fun e => e.2.core) = Cs) : ∀ e ∈ E, ∃ c ∈ Cs, c.1 = e.1 := fun e he => by
  refine ⟨e.2.core, by rw [← hC]; exact List.mem_map.2 ⟨e, he, rfl⟩, (h.1.named e he).1⟩

theorem put_c (w : World) (L : Nat) (fp : Nat → Prop) (Cs : List Core) (h : LedC w L fp Cs) (front : Bool)
    (s : ByteArray) (cpu mem : Int) (a1 a2 : Option Addr) (n1 n2 c1 c2 : Nat) (al : Bool) (xs ys : List ByteArray) (hs : s.size ≤ maxLen) (h1 : Strs w a1 xs) (h2 : Strs w a2 ys) (e1 : xs.length = n1) (e2 : ys.length = n2) (s1 : SP a1) (s2 : SP a2)
    (f1 : ∀ x, a1 = some x → xs ≠ [] → ¬ fp x.block) (f2 : ∀ x, a2 = some x → ys ≠ [] → ¬ fp x.block) (hxs : ∀ t ∈ xs, t.size ≤ maxLen) (hys : ∀ t ∈ ys, t.size ≤ maxLen)
    (hN : nodeE s cpu mem xs ys = 0) (h8 : Cs.length < 8) (hr : ∀ c ∈ Cs, if front then sb s c.1 = true else sb c.1 s = true) :
    Calls Tryd.prog 20 #[.pointer (some ⟨L, 0, none⟩), .agg #[.string s, .int .i64 cpu, .int .i64 mem, .slice a1 n1 c1, .slice a2 n2 c2, .bool al]] w fun e w' => e = .returned (.int .i64 0) ∧
      ∃ fp', LedC w' L fp' (if front then (s, cpu, mem, xs, ys, al) :: Cs else Cs ++ [(s, cpu, mem, xs, ys, al)]) ∧ Turn w w' fp fp' := by
  obtain ⟨E, hL, hC⟩ := h
  have hkeys := keys_of hL hC
  have hoff : ∀ e ∈ E, e.1 ≠ s := fun e he hes => by
    obtain ⟨c, hc, hce⟩ := hkeys e he
    have := hr c hc
    rw [hce, hes, sb_irrefl] at this
    split at this <;> cases this
  have hl := look_off hoff
  have hlen : E.length < 8 := by have := congrArg List.length hC; simp at this; omega
  have hz := nodeE_size hN
  have e0 : putE E s cpu mem xs ys = 0 := by
    unfold putE
    rw [hN, hl]
    have hz1 : zrec.u ≤ cpu ∧ zrec.m ≤ mem := ⟨hz.1, hz.2.2.1⟩
    simp [hz1]
    omega
  refine (putL w L fp E [] hL s cpu mem a1 a2 n1 n2 c1 c2 al xs ys hs h1 h2 e1 e2 s1 s2 f1 f2 hxs hys).mono ?_
  rintro e w' ⟨rfl, fp', E', a3, c3, a4, c4, hL', hE', hT'⟩
  rw [e0] at hE' ⊢
  rw [if_pos rfl] at hE'
  refine ⟨rfl, fp', ⟨E', hL', ?_⟩, hT'⟩
  rw [hE']
  unfold Go.Proofs.YtpgchnppinbpkaaDoor.put
  rw [del_none hl]
  cases front with
  | true =>
    rw [ins_front (fun e he => by
      obtain ⟨c, hc, hce⟩ := hkeys e he
      have := hr c hc
      rw [hce] at this
      simpa using this)]
    rw [List.map_cons, hC]
    rfl
  | false =>
    rw [ins_back (fun e he => by
      obtain ⟨c, hc, hce⟩ := hkeys e he
      have := hr c hc
      rw [hce] at this
      simpa using this)]
    rw [List.map_append, hC]
    rfl

theorem pack_c (w : World) (L : Nat) (fp : Nat → Prop) (Cs : List Core) (h : LedC w L fp Cs) (hT : Tab w) (g : Int) (hg : (Lit.int .i64 g).wf = true)
    (pa : Option Addr) (m pc : Nat) (ps : List PodT) (hP : Pods w pa ps) (hpl : ps.length = m) (hm0 : m ≠ 0) (hm8 : m ≤ 8) (mode : Int) (X : Option (List Pl)) (hX : layR [] mode (Cs.map recOf) [] (ps.map strip) = X) :
    Calls Tryd.prog 10 #[.pointer (some ⟨L, 0, none⟩), .int .i64 g, .slice pa m pc, .int .i64 mode] w fun e w' =>
      (X = none ∧ e = .returned (.tuple #[.slice none 0 0, .int .i64 6]) ∧ Below w.heap.size w w') ∨
      (∃ l a c9 fp', X = some l ∧ e = .returned (.tuple #[.slice a l.length c9, .int .i64 0]) ∧ Pls w' a l.reverse ∧ SP a ∧ Turn w w' fp fp') := by
  obtain ⟨E, hL, hC⟩ := h
  have hlay : layR [] mode (E.map (·.2)) [] ps = X := by
    rw [lay_strip, ← hX]
    refine lay_core ?_ _ _
    rw [List.map_map, List.map_map]
    have e1 : (Rec.core ∘ recOf) = id := by funext c; rfl
    rw [e1, List.map_id]
    exact hC
  have hps : ps ≠ [] := fun h => hm0 (by rw [← hpl, h]; rfl)
  refine (pack_any w L fp E [] (by simp) hL hT g hg (fun x hx => by cases hx) pa m pc ps hP hpl hm8 mode).mono ?_
  have hE : packE E [] g mode ps = if X = none then 6 else 0 := by
    unfold packE
    rw [hlay]
    simp [look, zgrp, hps]
  rw [hE]
  cases X with
  | none =>
    rw [if_pos rfl]
    rintro e w' (⟨_, h1, h2⟩ | ⟨h0, _⟩)
    · exact .inl ⟨rfl, h1, h2⟩
    · cases h0
  | some l =>
    rw [if_neg (by simp)]
    rintro e w' (⟨h0, _⟩ | ⟨_, a1, c1, fp', E', a', c', he, hPl, hsp, hn, hL', hk, hco, hT'⟩)
    · exact absurd rfl h0
    · have hpk : packL E [] mode ps = l.reverse := by unfold packL; rw [hlay]; rfl
      rw [hpk] at he hPl
      exact .inr ⟨l, a1, c1, fp', rfl, by rw [he, List.length_reverse], hPl, hsp, hT'⟩

theorem pack_some (w : World) (L : Nat) (fp : Nat → Prop) (Cs : List Core) (h : LedC w L fp Cs) (hT : Tab w) (g : Int) (hg : (Lit.int .i64 g).wf = true)
    (pa : Option Addr) (m pc : Nat) (ps : List PodT) (hP : Pods w pa ps) (hpl : ps.length = m) (hm0 : m ≠ 0) (hm8 : m ≤ 8) (mode : Int) (l : List Pl) (hX : layR [] mode (Cs.map recOf) [] (ps.map strip) = some l) (n : Nat) (hn : l.length = n) :
    Calls Tryd.prog 10 #[.pointer (some ⟨L, 0, none⟩), .int .i64 g, .slice pa m pc, .int .i64 mode] w fun e w' => ∃ a c9 fp', e = .returned (.tuple #[.slice a n c9, .int .i64 0]) ∧ Pls w' a l.reverse ∧ SP a ∧ Turn w w' fp fp' := by
  refine (pack_c w L fp Cs h hT g hg pa m pc ps hP hpl hm0 hm8 mode (some l) hX).mono ?_
  rintro e w' (⟨h0, _⟩ | ⟨l1, a, c9, fp', h1, h2, h3⟩)
  · cases h0
  · cases h1
    exact ⟨a, c9, fp', by rw [h2, hn], h3⟩
theorem pack_none (w : World) (L : Nat) (fp : Nat → Prop) (Cs : List Core) (h : LedC w L fp Cs) (hT : Tab w) (g : Int) (hg : (Lit.int .i64 g).wf = true)
    (pa : Option Addr) (m pc : Nat) (ps : List PodT) (hP : Pods w pa ps) (hpl : ps.length = m) (hm0 : m ≠ 0) (hm8 : m ≤ 8) (mode : Int) (hX : layR [] mode (Cs.map recOf) [] (ps.map strip) = none) :
    Calls Tryd.prog 10 #[.pointer (some ⟨L, 0, none⟩), .int .i64 g, .slice pa m pc, .int .i64 mode] w fun e w' => e = .returned (.tuple #[.slice none 0 0, .int .i64 6]) ∧ Below w.heap.size w w' := by
  refine (pack_c w L fp Cs h hT g hg pa m pc ps hP hpl hm0 hm8 mode none hX).mono ?_
  rintro e w' (⟨_, h1, h2⟩ | ⟨l1, a, c9, fp', h1, _⟩)
  · exact ⟨h1, h2⟩
  · cases h1

end Go.Proofs.YtpgchnppinbpkaaDoor
