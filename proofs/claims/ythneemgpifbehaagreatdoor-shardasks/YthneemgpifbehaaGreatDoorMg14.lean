/- Names in rising order: where a new one goes. -/
import Derived.Test.YthneemgpifbehaaGreatDoorMg12
import Derived.Test.YthneemgpifbehaaGreatDoorMg10
import Derived.Test.YthneemgpifbehaaGreatDoorMg13
import Derived.Laws.IdiomStrings
namespace Go.Proofs.YthneemgpifbehaaGreatDoor
open Go.RowKit Go.Maps

/-- Is the one text ahead of the other one? -/
def sb (a b : ByteArray) : Bool := bytesBefore a.data.toList b.data.toList
/-- How many stand ahead of a text. -/
def atN (s : ByteArray) : List ByteArray → Nat
  | [] => 0
  | y :: t => if sb s y then 0 else atN s t + 1
theorem atN_le (s : ByteArray) : ∀ l : List ByteArray, atN s l ≤ l.length
  | [] => Nat.le_refl _
  | y :: t => by
    unfold atN
    split
    · simp
    · have := atN_le s t; simp; omega
theorem atN_lt (s : ByteArray) : ∀ (l : List ByteArray) (k : Nat) (hk : k < l.length), k < atN s l → sb s l[k] = false
  | y :: t, k, hk, h => by
    unfold atN at h
    split at h
    · omega
    · rename_i hy
      cases k with
      | zero => simpa using hy
      | succ k => simpa using atN_lt s t k (by simpa using hk) (by omega)
theorem atN_at (s : ByteArray) : ∀ (l : List ByteArray) (h : atN s l < l.length), sb s l[atN s l] = true
  | [], h => by simp at h
  | y :: t, h => by
    by_cases hy : sb s y = true
    · have e : atN s (y :: t) = 0 := by show (if sb s y then 0 else atN s t + 1) = 0; rw [if_pos hy]
      simp [e, hy]
    · have e : atN s (y :: t) = atN s t + 1 := by show (if sb s y then 0 else atN s t + 1) = _; rw [if_neg hy]
      have := atN_at s t (by rw [e] at h; simpa using h)
      simp [e, this]
theorem ins_keys (s : ByteArray) (r : Rec) : ∀ M : List (ByteArray × Rec), (ins sK (s, r) M).map (·.1) = (M.map (·.1)).take (atN s (M.map (·.1))) ++ s :: (M.map (·.1)).drop (atN s (M.map (·.1)))
  | [] => rfl
  | y :: t => by
    have hb : (sK s).before (sK y.1) = sb s y.1 := rfl
    simp only [ins, List.map_cons, hb, atN]
    split
    · simp
    · simp [ins_keys s r t]
def Rises (l : List ByteArray) : Prop := l.Pairwise (fun a b => sb a b = true)
theorem sb_irrefl (a : ByteArray) : sb a a = false := WideAt.bytes_irrefl _
theorem sb_trans {a b c : ByteArray} (h : sb a b = true) (h' : sb b c = true) : sb a c = true := WideShapes.bytes_trans _ _ _ h h'
theorem put_keys_new {M : List (ByteArray × Rec)} {s : ByteArray} (r : Rec) (h : look M s = none) : (put sK M s r).map (·.1) = (M.map (·.1)).take (atN s (M.map (·.1))) ++ s :: (M.map (·.1)).drop (atN s (M.map (·.1))) := by
  unfold put
  rw [del_none h, ins_keys]
theorem put_keys_has {s : ByteArray} (r : Rec) : ∀ {M : List (ByteArray × Rec)}, Rises (M.map (·.1)) → look M s ≠ none → (put sK M s r).map (·.1) = M.map (·.1)
  | [], _, h => absurd rfl h
  | y :: t, hr, h => by
    unfold Rises at hr
    rw [List.map_cons, List.pairwise_cons] at hr
    obtain ⟨h1, h2⟩ := hr
    by_cases e : y.1 = s
    · have hn : look t s = none := by
        cases hl : look t s with
        | none => rfl
        | some x =>
          have := h1 s (List.mem_map.2 ⟨_, mem_of_look hl, rfl⟩)
          rw [e, sb_irrefl] at this
          cases this
      have hd : del (y :: t) s = t := by
        have : del (y :: t) s = del t s := by simp [del, e]
        rw [this, del_none hn]
      unfold put
      rw [hd]
      cases t with
      | nil => simp [ins, e]
      | cons z u =>
        have hz : (sK s).before (sK z.1) = true := by rw [← e]; exact h1 z.1 (by simp)
        simp [ins, hz, e]
    · have hs : look t s ≠ none := by rw [look_cons, if_neg e] at h; exact h
      have hb : ¬ (sK s).before (sK y.1) = true := by
        intro hb
        cases hl : look t s with
        | none => exact hs hl
        | some x =>
          have := sb_trans (show sb s y.1 = true from hb) (h1 s (List.mem_map.2 ⟨_, mem_of_look hl, rfl⟩))
          rw [sb_irrefl] at this
          cases this
      have hd : del (y :: t) s = y :: del t s := by simp [del, e]
      have ih := put_keys_has r (M := t) h2 hs
      unfold put at ih ⊢
      rw [hd]
      simp only [ins, if_neg hb, List.map_cons, ih]
/-- A text is among rising ones just where it is among those ahead. -/
theorem has_front {l : List ByteArray} (hr : Rises l) (s : ByteArray) : s ∈ l ↔ s ∈ l.take (atN s l) := by
  induction l with
  | nil => simp
  | cons y t ih =>
    unfold Rises at hr
    rw [List.pairwise_cons] at hr
    unfold atN
    split
    · rename_i hy
      simp only [List.take_zero, List.not_mem_nil, iff_false, List.mem_cons, not_or]
      refine ⟨fun e => ?_, fun hm => ?_⟩
      · rw [e, sb_irrefl] at hy; cases hy
      · have := sb_trans hy (hr.1 s hm)
        rw [sb_irrefl] at this
        cases this
    · simp [ih hr.2]
theorem look_iff {M : List (ByteArray × Rec)} (s : ByteArray) : look M s ≠ none ↔ s ∈ M.map (·.1) := by
  constructor
  · intro h
    cases hl : look M s with
    | none => exact absurd hl h
    | some x => exact List.mem_map.2 ⟨_, mem_of_look hl, rfl⟩
  · intro h hn
    obtain ⟨p, hp, e⟩ := List.mem_map.1 h
    exact look_none hn p hp e

theorem less_before : ∀ (a b : List UInt8), Op.bytesLess a b = bytesBefore a b
  | [], [] => rfl
  | [], _ :: _ => rfl
  | _ :: _, [] => rfl
  | x :: r, y :: t => by
    have ih := less_before r t
    unfold Op.bytesLess bytesBefore
    rw [ih]
theorem leq_sb (a b : ByteArray) : (Op.bytesLess a.toList b.toList || a.toList == b.toList) = !sb b a := by
  unfold sb
  rw [less_before, ByteArray.toList_eq, ByteArray.toList_eq]
  by_cases h : a.data.toList = b.data.toList
  · rw [h, WideAt.bytes_irrefl]; simp
  · rcases WideAt.bytes_total _ _ h with h1 | h1
    · have h2 : bytesBefore b.data.toList a.data.toList = false := by
        cases h3 : bytesBefore b.data.toList a.data.toList with
        | false => rfl
        | true => have := WideShapes.bytes_trans _ _ _ h1 h3; rw [WideAt.bytes_irrefl] at this; cases this
      simp [h1, h2]
    · have h2 : bytesBefore a.data.toList b.data.toList = false := by
        cases h3 : bytesBefore a.data.toList b.data.toList with
        | false => rfl
        | true => have := WideShapes.bytes_trans _ _ _ h1 h3; rw [WideAt.bytes_irrefl] at this; cases this
      simp [h1, h2]
      exact fun e => h (by rw [e])

/-- The twelve names. -/
def sN (k : Nat) : ByteArray := ⟨#[110, UInt8.ofNat (97 + k)]⟩
theorem sN_node (k : Nat) (hk : k < 12) (i : Int) (hi : 0 ≤ i ∧ i ≤ 1099511627776) : nodeE (sN k) i 0 [] [] = 0 := by
  have e1 : isName (sN k) = true := by
    rcases (by omega : k = 0 ∨ k = 1 ∨ k = 2 ∨ k = 3 ∨ k = 4 ∨ k = 5 ∨ k = 6 ∨ k = 7 ∨ k = 8 ∨ k = 9 ∨ k = 10 ∨ k = 11) with rfl | rfl | rfl | rfl | rfl | rfl | rfl | rfl | rfl | rfl | rfl | rfl <;> decide +kernel
  have e2 : sizeB i 0 = true := by unfold sizeB; simp; omega
  have e3 : setB [] = true := rfl
  unfold nodeE askE
  rw [e1, e2, e3]; rfl
theorem conv_byte (w : World) (m : Nat) (hm : m < 100) : (convert 189 9 (.slice (some ⟨w.heap.size, 0, none⟩) 1 1)).run Tryz.prog (w.alloc (.cells #[.int .u8 (97 + (m : Int))] 5)) =
    .ok (.string ⟨#[UInt8.ofNat (97 + m)]⟩) (w.alloc (.cells #[.int .u8 (97 + (m : Int))] 5)) := by
  refine run_convert_bytes_back (P := Tryz.prog) (w.alloc (.cells #[.int .u8 (97 + (m : Int))] 5)) 189 9 5 ⟨w.heap.size, 0, none⟩ 1 [UInt8.ofNat (97 + m)] Tryz.underlying189 Tryz.underlying5 Tryz.underlying9 ?_
  intro j hj
  have : j = 0 := by simp at hj; omega
  subst this
  simp [Addr.add]
  omega
theorem sN_small (k : Nat) : (sN k).size ≤ maxLen := by
  show 2 ≤ maxLen
  decide

end Go.Proofs.YthneemgpifbehaaGreatDoor

/- What is used of a node is the sum of what all have there: the sums, and how taking and giving turn them. -/
namespace Go.Proofs.YthneemgpifbehaaGreatDoor
open Go.RowKit Go.Maps

/-- What places on one node come to. -/
def sW (f : Pl → Int) (s : ByteArray) : List Pl → Int
  | [] => 0
  | q :: t => (if q.node = s then f q else 0) + sW f s t
/-- What all have on one node. -/
def gW (f : Pl → Int) (s : ByteArray) : List (Int × Grp) → Int
  | [] => 0
  | e :: t => sW f s e.2.ps + gW f s t
theorem sW_nonneg {f : Pl → Int} {s : ByteArray} : ∀ {ps : List Pl}, (∀ p ∈ ps, 0 ≤ f p) → 0 ≤ sW f s ps
  | [], _ => Int.le_refl _
  | q :: t, h => by
    have h1 := h q (by simp)
    have h2 := sW_nonneg (f := f) (s := s) (ps := t) (fun p hp => h p (by simp [hp]))
    unfold sW
    split <;> omega
theorem sW_zero {f : Pl → Int} {s : ByteArray} : ∀ {ps : List Pl}, (∀ p ∈ ps, p.node ≠ s) → sW f s ps = 0
  | [], _ => rfl
  | q :: t, h => by
    unfold sW
    rw [if_neg (h q (by simp)), sW_zero (fun p hp => h p (by simp [hp]))]
    rfl
theorem sW_append (f : Pl → Int) (s : ByteArray) : ∀ (a b : List Pl), sW f s (a ++ b) = sW f s a + sW f s b
  | [], b => by simp [sW]
  | q :: t, b => by
    rw [List.cons_append]
    simp only [sW]
    rw [sW_append f s t b]; omega
theorem sW_take {f : Pl → Int} {s : ByteArray} {ps : List Pl} {k : Nat} (h : k < ps.length) : sW f s (ps.take (k + 1)) = sW f s (ps.take k) + (if ps[k].node = s then f ps[k] else 0) := by
  rw [List.take_succ_eq_append_getElem h, sW_append]
  simp [sW]
theorem sW_one_le {s : ByteArray} : ∀ (ps : List Pl), 0 ≤ sW (fun _ => 1) s ps ∧ sW (fun _ => 1) s ps ≤ ps.length
  | [] => by simp [sW]
  | q :: t => by
    have := sW_one_le (s := s) t
    unfold sW
    simp only [List.length_cons]
    split <;> omega
theorem gW_ins (f : Pl → Int) (s : ByteArray) (x : Int × Grp) : ∀ G : List (Int × Grp), gW f s (ins iK x G) = sW f s x.2.ps + gW f s G
  | [] => rfl
  | y :: t => by
    unfold ins
    split
    · rfl
    · simp only [gW]
      rw [gW_ins f s x t]; omega
theorem gW_put {f : Pl → Int} {s : ByteArray} {G : List (Int × Grp)} {g : Int} (r : Grp) (h : look G g = none) : gW f s (put iK G g r) = sW f s r.ps + gW f s G := by
  unfold put
  rw [del_none h, gW_ins]
theorem gW_del {f : Pl → Int} {s : ByteArray} : ∀ {G : List (Int × Grp)} {g : Int} {r : Grp}, Apart G → look G g = some r → gW f s G = sW f s r.ps + gW f s (del G g)
  | [], g, r, _, h => by simp [look] at h
  | y :: t, g, r, ha, h => by
    unfold Apart at ha
    rw [List.pairwise_cons] at ha
    rw [look_cons] at h
    by_cases e : y.1 = g
    · rw [if_pos e] at h
      cases h
      have hn : look t g = none := by
        cases hl : look t g with
        | none => rfl
        | some x => exact absurd e (ha.1 _ (mem_of_look hl))
      have hd : del (y :: t) g = t := by
        have : del (y :: t) g = del t g := by simp [del, e]
        rw [this, del_none hn]
      rw [hd]; rfl
    · rw [if_neg e] at h
      have hd : del (y :: t) g = y :: del t g := by simp [del, e]
      rw [hd]
      simp only [gW]
      rw [gW_del ha.2 h]; omega
theorem gW_zero {f : Pl → Int} {s : ByteArray} : ∀ {G : List (Int × Grp)}, (∀ e ∈ G, ∀ p ∈ e.2.ps, p.node ≠ s) → gW f s G = 0
  | [], _ => rfl
  | y :: t, h => by
    unfold gW
    rw [sW_zero (h y (by simp)), gW_zero (fun e he => h e (by simp [he]))]
    rfl
theorem gW_nonneg {f : Pl → Int} {s : ByteArray} : ∀ {G : List (Int × Grp)}, (∀ e ∈ G, ∀ p ∈ e.2.ps, 0 ≤ f p) → 0 ≤ gW f s G
  | [], _ => Int.le_refl _
  | y :: t, h => by
    unfold gW
    have := sW_nonneg (f := f) (s := s) (h y (by simp))
    have := gW_nonneg (f := f) (s := s) (G := t) (fun e he => h e (by simp [he]))
    omega
theorem gW_one_le {s : ByteArray} {n : Nat} : ∀ (G : List (Int × Grp)), (∀ e ∈ G, e.2.ps.length ≤ n) → 0 ≤ gW (fun _ => 1) s G ∧ gW (fun _ => 1) s G ≤ G.length * n
  | [], _ => by simp [gW]
  | y :: t, h => by
    have h1 := sW_one_le (s := s) y.2.ps
    have h2 := gW_one_le (s := s) (n := n) t (fun e he => h e (by simp [he]))
    have h3 := h y (by simp)
    unfold gW
    simp only [List.length_cons]
    refine ⟨by omega, ?_⟩
    have e : ((t.length + 1 : Nat) : Int) * n = t.length * n + n := by rw [Int.natCast_add, Int.add_mul]; simp
    rw [e]
    omega

/-- A node without what is used of it. -/
def Rec.stem (r : Rec) : Rec := { r with u := 0, m := 0, k := 0 }
theorem stem_core {r r' : Rec} (h : r.stem = r'.stem) : r.nm = r'.nm ∧ r.cpu = r'.cpu ∧ r.mem = r'.mem ∧ r.xs = r'.xs ∧ r.ys = r'.ys ∧ r.cl = r'.cl := by
  cases r; cases r'
  simp only [Rec.stem, Rec.mk.injEq] at h
  obtain ⟨h1, h2, h3, h4, h5, h6, h7, h8, h9, h10, _⟩ := h
  exact ⟨h1, h2, h3, h6, h9, h10⟩

/-- What with leaves, node by node. -/
theorem with_look (s : ByteArray) {E : List (ByteArray × Rec)} : ∀ {ps : List Pl} {A M : List (ByteArray × Rec)}, withF E A ps = some M → 0 ≤ (nowR E A s).k → (nowR E A s).k + ps.length ≤ 1000000 →
    (nowR E M s).stem = (nowR E A s).stem ∧ (nowR E M s).u = (nowR E A s).u + sW (·.cpu) s ps ∧ (nowR E M s).m = (nowR E A s).m + sW (·.mem) s ps ∧ (nowR E M s).k = (nowR E A s).k + sW (fun _ => 1) s ps ∧
      ((nowR E A s).u ≤ (nowR E A s).cpu ∧ (nowR E A s).m ≤ (nowR E A s).mem → (nowR E M s).u ≤ (nowR E M s).cpu ∧ (nowR E M s).m ≤ (nowR E M s).mem)
  | [], A, M, h, _, _ => by
    simp only [withF, Option.some.injEq] at h
    subst h
    exact ⟨rfl, by simp [sW], by simp [sW], by simp [sW], fun h => h⟩
  | q :: t, A, M, h, h0, h1 => by
    unfold withF at h
    split at h
    case isFalse => cases h
    case isTrue hf =>
      simp only [List.length_cons] at h1
      by_cases e : q.node = s
      · have en : nowR E (put sK A q.node ((nowR E A q.node).plus q)) s = (nowR E A s).plus q := by
          unfold nowR
          rw [look_put, if_pos e.symm, e]
          rfl
        have hk : ((nowR E A s).plus q).k = (nowR E A s).k + 1 := by
          show wrap64 _ = _
          unfold wrap64; omega
        obtain ⟨g1, g2, g3, g4, g5⟩ := with_look s h (by rw [en, hk]; omega) (by rw [en, hk]; omega)
        rw [en] at g1 g2 g3 g4 g5
        rw [hk] at g4
        rw [e] at hf
        refine ⟨g1.trans rfl, ?_, ?_, ?_, fun _ => g5 hf⟩
        · rw [g2]; simp only [sW, if_pos e, Rec.plus]; omega
        · rw [g3]; simp only [sW, if_pos e, Rec.plus]; omega
        · rw [g4]; simp only [sW, if_pos e]; omega
      · have en : nowR E (put sK A q.node ((nowR E A q.node).plus q)) s = nowR E A s := by
          unfold nowR
          rw [look_put, if_neg (fun h => e h.symm)]
        obtain ⟨g1, g2, g3, g4, g5⟩ := with_look s h (by rw [en]; omega) (by rw [en]; omega)
        rw [en] at g1 g2 g3 g4 g5
        exact ⟨g1, by rw [g2]; simp [sW, e], by rw [g3]; simp [sW, e], by rw [g4]; simp [sW, e], g5⟩
theorem with_apart {E : List (ByteArray × Rec)} : ∀ {ps : List Pl} {A M : List (ByteArray × Rec)}, withF E A ps = some M → Apart A → Apart M
  | [], A, M, h, ha => by simp only [withF, Option.some.injEq] at h; subst h; exact ha
  | q :: t, A, M, h, ha => by
    unfold withF at h
    split at h
    · exact with_apart h (ha.put sK _ _)
    · cases h
theorem with_keys {E : List (ByteArray × Rec)} : ∀ {ps : List Pl} {A M : List (ByteArray × Rec)}, withF E A ps = some M → ∀ s, look M s ≠ none → look A s ≠ none ∨ ∃ p ∈ ps, p.node = s
  | [], A, M, h, s, hs => by simp only [withF, Option.some.injEq] at h; subst h; exact .inl hs
  | q :: t, A, M, h, s, hs => by
    unfold withF at h
    split at h
    · rcases with_keys h s hs with hh | ⟨p, hp, e⟩
      · rw [look_put] at hh
        by_cases e : s = q.node
        · exact .inr ⟨q, by simp, e.symm⟩
        · rw [if_neg e] at hh; exact .inl hh
      · exact .inr ⟨p, by simp [hp], e⟩
    · cases h
theorem merge_look (s : ByteArray) : ∀ (M E : List (ByteArray × Rec)), Apart M → look (mergeF E M) s = match look M s with | some r => some r | none => look E s
  | [], E, _ => rfl
  | e :: t, E, ha => by
    unfold Apart at ha
    rw [List.pairwise_cons] at ha
    have ih := merge_look s t (put sK E e.1 e.2) ha.2
    show look (mergeF (put sK E e.1 e.2) t) s = _
    rw [ih, look_cons]
    by_cases h : e.1 = s
    · have hn : look t s = none := by
        cases hl : look t s with
        | none => rfl
        | some x => exact absurd h (ha.1 _ (mem_of_look hl))
      rw [hn, if_pos h]
      simp only
      rw [look_put, if_pos h.symm]
    · rw [if_neg h]
      cases look t s with
      | some r => rfl
      | none =>
        simp only
        rw [look_put, if_neg (fun e' => h e'.symm)]
theorem merge_keys : ∀ (M E : List (ByteArray × Rec)), Rises (E.map (·.1)) → (∀ e ∈ M, look E e.1 ≠ none) → (mergeF E M).map (·.1) = E.map (·.1)
  | [], _, _, _ => rfl
  | e :: t, E, hr, h => by
    have hk := put_keys_has e.2 hr (h e (by simp))
    show (mergeF (put sK E e.1 e.2) t).map (·.1) = _
    rw [merge_keys t (put sK E e.1 e.2) (by rw [hk]; exact hr) (fun e' he' => by
      rw [look_iff, hk, ← look_iff]
      exact h e' (by simp [he'])), hk]

/-- What giving leaves, node by node. -/
theorem give_look : ∀ {ps : List Pl} {E : List (ByteArray × Rec)}, Rises (E.map (·.1)) → (∀ p ∈ ps, 0 ≤ p.cpu ∧ 0 ≤ p.mem ∧ look E p.node ≠ none) → (∀ s r, look E s = some r → sW (·.cpu) s ps ≤ r.u ∧ sW (·.mem) s ps ≤ r.m ∧ r.k ≤ 1000000 ∧ sW (fun _ => 1) s ps ≤ r.k) →
    ∃ E', giveF E ps = some E' ∧ E'.map (·.1) = E.map (·.1) ∧ ∀ s, look E' s = (look E s).map (fun r => { r with u := r.u - sW (·.cpu) s ps, m := r.m - sW (·.mem) s ps, k := r.k - sW (fun _ => 1) s ps })
  | [], E, hr, _, _ => ⟨E, rfl, rfl, fun s => by simp [sW]⟩
  | q :: t, E, hr, hq, hs => by
    obtain ⟨h1, h2, h3⟩ := hq q (by simp)
    cases hl : look E q.node with
    | none => exact absurd hl h3
    | some r =>
      obtain ⟨g1, g2, g3, g4⟩ := hs q.node r hl
      simp only [sW, if_pos] at g1 g2 g4
      have n1 := sW_nonneg (f := (·.cpu)) (s := q.node) (ps := t) (fun p hp => (hq p (by simp [hp])).1)
      have n2 := sW_nonneg (f := (·.mem)) (s := q.node) (ps := t) (fun p hp => (hq p (by simp [hp])).2.1)
      have n3 := sW_one_le (s := q.node) t
      have hk : (r.minus q).k = r.k - 1 := by show wrap64 _ = _; unfold wrap64; omega
      have hkeys : (put sK E q.node (r.minus q)).map (·.1) = E.map (·.1) := put_keys_has _ hr (by rw [hl]; simp)
      obtain ⟨E', k1, k2, k3⟩ := give_look (ps := t) (E := put sK E q.node (r.minus q)) (by rw [hkeys]; exact hr)
        (fun p hp => ⟨(hq p (by simp [hp])).1, (hq p (by simp [hp])).2.1, by
          rw [look_put]
          split
          · simp
          · exact (hq p (by simp [hp])).2.2⟩)
        (fun s r' hl' => by
          rw [look_put] at hl'
          by_cases e : s = q.node
          · rw [if_pos e] at hl'
            cases hl'
            subst e
            rw [hk]
            simp only [Rec.minus]
            refine ⟨by omega, by omega, by omega, by omega⟩
          · rw [if_neg e] at hl'
            have := hs s r' hl'
            have e' : ¬ q.node = s := fun h => e h.symm
            simp only [sW, if_neg e'] at this
            refine ⟨by omega, by omega, this.2.2.1, by omega⟩)
      refine ⟨E', ?_, k2.trans hkeys, fun s => ?_⟩
      · show (match look E q.node with | none => none | some r => if q.cpu ≤ r.u ∧ q.mem ≤ r.m then giveF (put sK E q.node (r.minus q)) t else none) = _
        rw [hl]
        simp only
        rw [if_pos ⟨by omega, by omega⟩, k1]
      · rw [k3, look_put]
        by_cases e : s = q.node
        · subst e
          rw [if_pos rfl, hl]
          simp only [Option.map_some, Option.some.injEq, sW, if_pos]
          cases r
          simp only [Rec.minus, Rec.mk.injEq, true_and] at hk ⊢
          refine ⟨by omega, by omega, by omega⟩
        · have e' : ¬ q.node = s := fun h => e h.symm
          rw [if_neg e]
          simp only [sW, if_neg e']
          congr 1
          funext r
          simp

end Go.Proofs.YthneemgpifbehaaGreatDoor

/- Ledgers in order: nodes by names, what is used of each is the sum of what all have there, and no more than it has. -/
namespace Go.Proofs.YthneemgpifbehaaGreatDoor
open Go.RowKit Go.Maps

/-- A ledger in order. -/
structure Inv (E : List (ByteArray × Rec)) (G : List (Int × Grp)) : Prop where
  rise : Rises (E.map (·.1))
  apE : Apart E
  apG : Apart G
  named : ∀ e ∈ E, e.2.nm = e.1 ∧ e.1.size ≤ maxLen
  cap : ∀ e ∈ E, 0 ≤ e.2.cpu ∧ e.2.cpu ≤ 1099511627776 ∧ 0 ≤ e.2.mem ∧ e.2.mem ≤ 1099511627776
  uses : ∀ s r, look E s = some r → r.u = gW (·.cpu) s G ∧ r.m = gW (·.mem) s G ∧ r.k = gW (fun _ => 1) s G ∧ r.u ≤ r.cpu ∧ r.m ≤ r.mem
  pls : ∀ e ∈ G, e.2.ps.length ≤ 8 ∧ ∀ p ∈ e.2.ps, 0 ≤ p.cpu ∧ 0 ≤ p.mem ∧ look E p.node ≠ none ∧ p.node.size ≤ maxLen
  lenE : E.length ≤ 8
  marks : ∀ e ∈ E, (∀ s ∈ e.2.xs, s.size ≤ maxLen) ∧ ∀ s ∈ e.2.ys, s.size ≤ maxLen

section
variable {E : List (ByteArray × Rec)} {G : List (Int × Grp)}
theorem Inv.nil : Inv [] [] := ⟨List.Pairwise.nil, List.Pairwise.nil, List.Pairwise.nil, by simp, by simp, by simp [look], by simp, by simp, by simp⟩
theorem Inv.count (h : Inv E G) (s : ByteArray) : 0 ≤ gW (fun _ => 1) s G ∧ gW (fun _ => 1) s G ≤ G.length * 8 := gW_one_le (n := 8) G (fun e he => (h.pls e he).1)
theorem Inv.least (h : Inv E G) (s : ByteArray) : 0 ≤ gW (·.cpu) s G ∧ 0 ≤ gW (·.mem) s G :=
  ⟨gW_nonneg fun e he p hp => ((h.pls e he).2 p hp).1, gW_nonneg fun e he p hp => ((h.pls e he).2 p hp).2.1⟩
theorem Inv.fair (h : Inv E G) : ∀ e ∈ E, e.2.Fair := by
  intro e he
  have hl := look_of_mem h.apE (show (e.1, e.2) ∈ E from he)
  obtain ⟨h1, h2, _, h4, h5⟩ := h.uses _ _ hl
  have hc := h.cap e he
  have hn := h.least e.1
  exact ⟨by omega, by omega, by omega, by omega, by omega, by omega⟩
theorem Inv.size (h : Inv E G) : ∀ e ∈ E, e.1.size ≤ maxLen := fun e he => (h.named e he).2
/-- What is used of any name, there or not. -/
theorem Inv.used (h : Inv E G) (s : ByteArray) : ((look E s).getD zrec).u = gW (·.cpu) s G ∧ ((look E s).getD zrec).m = gW (·.mem) s G ∧ ((look E s).getD zrec).k = gW (fun _ => 1) s G := by
  cases hl : look E s with
  | some r =>
    obtain ⟨h1, h2, h3, _⟩ := h.uses s r hl
    exact ⟨h1, h2, h3⟩
  | none =>
    have hz : ∀ e ∈ G, ∀ p ∈ e.2.ps, p.node ≠ s := fun e he p hp hn => ((h.pls e he).2 p hp).2.2.1 (by rw [hn, hl])
    rw [gW_zero hz, gW_zero hz, gW_zero hz]
    exact ⟨rfl, rfl, rfl⟩

theorem nodeE_size {s : ByteArray} {cpu mem : Int} {xs ys : List ByteArray} (h : nodeE s cpu mem xs ys = 0) : 0 ≤ cpu ∧ cpu ≤ 1099511627776 ∧ 0 ≤ mem ∧ mem ≤ 1099511627776 := by
  unfold nodeE askE at h
  split at h
  · split at h
    · rename_i hs
      unfold sizeB at hs
      simp at hs
      omega
    · cases h
  · cases h
theorem put_some {s : ByteArray} {cpu mem : Int} {xs ys : List ByteArray} (h : putE E s cpu mem xs ys = 0) : nodeE s cpu mem xs ys = 0 ∧ ((look E s).getD zrec).u ≤ cpu ∧ ((look E s).getD zrec).m ≤ mem ∧ (look E s = none → E.length < 8) := by
  unfold putE at h
  split at h
  · rename_i hn; exact absurd h hn
  · rename_i hn
    split at h
    · cases h
    · rename_i hf
      split at h
      · cases h
      · rename_i hc
        refine ⟨by simpa using hn, by omega, by omega, fun hl => ?_⟩
        rcases Nat.lt_or_ge E.length 8 with h8 | h8
        · exact h8
        · exact absurd ⟨hl, h8⟩ hc

/-- A node more, or one anew. -/
theorem Inv.put (h : Inv E G) {s : ByteArray} {cpu mem : Int} {xs ys : List ByteArray} {a3 a4 : Option Addr} {c3 c4 : Nat} {al : Bool} (hs : s.size ≤ maxLen) (hxs : ∀ t ∈ xs, t.size ≤ maxLen) (hys : ∀ t ∈ ys, t.size ≤ maxLen) (hA : putE E s cpu mem xs ys = 0) (hr : Rises ((put sK E s ⟨s, cpu, mem, a3, c3, xs, a4, c4, ys, al, ((look E s).getD zrec).u, ((look E s).getD zrec).m, ((look E s).getD zrec).k⟩).map (·.1))) :
    Inv (put sK E s ⟨s, cpu, mem, a3, c3, xs, a4, c4, ys, al, ((look E s).getD zrec).u, ((look E s).getD zrec).m, ((look E s).getD zrec).k⟩) G := by
  obtain ⟨hn, hu, hm, h8⟩ := put_some hA
  have hz := nodeE_size hn
  have hus := h.used s
  refine ⟨hr, h.apE.put sK _ _, h.apG, ?_, ?_, ?_, ?_, ?_, ?_⟩
  · intro e he
    rcases (mem_put sK).1 he with rfl | ⟨he, _⟩
    · exact ⟨rfl, hs⟩
    · exact h.named e he
  · intro e he
    rcases (mem_put sK).1 he with rfl | ⟨he, _⟩
    · exact hz
    · exact h.cap e he
  · intro t r hl
    rw [look_put] at hl
    by_cases e : t = s
    · subst e
      rw [if_pos rfl] at hl
      cases hl
      exact ⟨hus.1, hus.2.1, hus.2.2, hu, hm⟩
    · rw [if_neg e] at hl
      exact h.uses t r hl
  · intro e he
    refine ⟨(h.pls e he).1, fun p hp => ?_⟩
    obtain ⟨k1, k2, k3, k4⟩ := (h.pls e he).2 p hp
    refine ⟨k1, k2, ?_, k4⟩
    rw [look_put]
    split
    · simp
    · exact k3
  · rw [length_put sK h.apE]
    split
    · exact h.lenE
    · rename_i hi
      have := h8 (by simpa using hi)
      omega
  · intro e he
    rcases (mem_put sK).1 he with rfl | ⟨he, _⟩
    · exact ⟨hxs, hys⟩
    · exact h.marks e he

theorem take_some {g : Int} {ps : List Pl} (h : takeE E G g ps = 0) : look G g = none ∧ ps ≠ [] ∧ checkF E ps = 0 := by
  unfold takeE at h
  split at h
  · cases h
  · rename_i h1
    split at h
    · cases h
    · rename_i h2
      split at h
      · rename_i h3; exact absurd h h3
      · rename_i h3
        exact ⟨by simpa using h1, h2, by simpa using h3⟩

/-- What lies at a node behind a taking. -/
theorem take_look {ps : List Pl} {M : List (ByteArray × Rec)} (hE : withF E [] ps = some M) (hc : checkF E ps = 0) (s : ByteArray) : look (mergeF E M) s = (look E s).map (fun _ => nowR E M s) ∧ (look E s = none → look M s = none) := by
  have hap := with_apart hE (List.Pairwise.nil : Apart ([] : List (ByteArray × Rec)))
  have hk : look M s ≠ none → look E s ≠ none := fun hh => by
    rcases with_keys hE s hh with h1 | ⟨p, hp, rfl⟩
    · exact absurd rfl h1
    · exact check_some hc p hp
  rw [merge_look s M E hap]
  unfold nowR
  refine ⟨?_, fun hn => ?_⟩
  · cases hm : look M s with
    | some r =>
      cases he : look E s with
      | none => exact absurd he (hk (by rw [hm]; simp))
      | some r' => rfl
    | none =>
      simp only [Option.getD_none]
      cases look E s <;> rfl
  · cases hm : look M s with
    | none => rfl
    | some r => exact absurd hn (hk (by rw [hm]; simp))

theorem Inv.take (h : Inv E G) {g : Int} {ps : List Pl} {M : List (ByteArray × Rec)} {a : Option Addr} {c : Nat} (hA : takeE E G g ps = 0) (hE : withF E [] ps = some M) (hl : ps.length ≤ 8) (hG : G.length ≤ 1000) (hz : ∀ p ∈ ps, p.node.size ≤ maxLen) :
    Inv (mergeF E M) (Go.Proofs.YthneemgpifbehaaGreatDoor.put iK G g ⟨a, c, ps⟩) ∧ (mergeF E M).map (·.1) = E.map (·.1) ∧ (mergeF E M).map (fun e => e.2.core) = E.map (fun e => e.2.core) := by
  obtain ⟨hgn, hne, hc⟩ := take_some hA
  have hap := with_apart hE (List.Pairwise.nil : Apart ([] : List (ByteArray × Rec)))
  have hk := merge_keys M E h.rise (fun e he => by
    have hm := look_of_mem hap (show (e.1, e.2) ∈ M from he)
    intro hn
    rw [(take_look hE hc e.1).2 hn] at hm
    cases hm)
  have hlk := fun s => take_look hE hc s
  have h0 : ∀ s, nowR E [] s = (look E s).getD zrec := fun s => rfl
  have hwl : ∀ s, _ := fun s => with_look s hE (by rw [h0, (h.used s).2.2]; exact (h.count s).1) (by rw [h0, (h.used s).2.2]; have := (h.count s).2; omega)
  have hlen : (mergeF E M).length = E.length := by
    have := congrArg List.length hk
    simpa using this
  have hapE : Apart (mergeF E M) := by
    unfold Apart
    have : Rises ((mergeF E M).map (·.1)) := by rw [hk]; exact h.rise
    unfold Rises at this
    rw [List.pairwise_map] at this
    exact this.imp fun hh e => by rw [e, sb_irrefl] at hh; cases hh
  have hcore : ∀ e ∈ mergeF E M, ∃ r, look E e.1 = some r ∧ e.2 = nowR E M e.1 ∧ e.2.core = r.core := by
    intro e he
    have hm := look_of_mem hapE (show (e.1, e.2) ∈ _ from he)
    rw [(hlk e.1).1] at hm
    cases hl' : look E e.1 with
    | none => rw [hl'] at hm; cases hm
    | some r =>
      rw [hl'] at hm
      simp only [Option.map_some, Option.some.injEq] at hm
      refine ⟨r, rfl, hm.symm, ?_⟩
      obtain ⟨w1, _⟩ := hwl e.1
      rw [h0, hl', hm] at w1
      obtain ⟨q1, q2, q3, q4, q5, q6⟩ := stem_core w1
      simp only [Option.getD_some] at q1 q2 q3 q4 q5 q6
      simp only [Rec.core, q1, q2, q3, q4, q5, q6]
  refine ⟨⟨by rw [hk]; exact h.rise, hapE, h.apG.put iK _ _, ?_, ?_, ?_, ?_, by rw [hlen]; exact h.lenE, fun e he => by
      obtain ⟨r, hr, _, hcr⟩ := hcore e he
      have hm := h.marks _ (mem_of_look hr)
      have e1 : e.2.xs = r.xs := congrArg (fun x => x.2.2.2.1) hcr
      have e2 : e.2.ys = r.ys := congrArg (fun x => x.2.2.2.2.1) hcr
      rw [e1, e2]; exact hm⟩, hk, ?_⟩
  · intro e he
    obtain ⟨r, hr, _, hcr⟩ := hcore e he
    have hm := h.named _ (mem_of_look hr)
    exact ⟨(congrArg (fun x => x.1) hcr).trans hm.1, hm.2⟩
  · intro e he
    obtain ⟨r, hr, _, hcr⟩ := hcore e he
    have hm := h.cap _ (mem_of_look hr)
    have e1 : e.2.cpu = r.cpu := congrArg (fun x => x.2.1) hcr
    have e2 : e.2.mem = r.mem := congrArg (fun x => x.2.2.1) hcr
    rw [e1, e2]; exact hm
  · intro s r hl'
    rw [(hlk s).1] at hl'
    cases he : look E s with
    | none => rw [he] at hl'; cases hl'
    | some r0 =>
      rw [he] at hl'
      simp only [Option.map_some, Option.some.injEq] at hl'
      obtain ⟨w1, w2, w3, w4, w5⟩ := hwl s
      obtain ⟨u1, u2, u3, u4, u5⟩ := h.uses s r0 he
      rw [h0, he, hl'] at w1 w2 w3 w4 w5
      simp only [Option.getD_some] at w1 w2 w3 w4 w5
      rw [gW_put _ hgn, gW_put _ hgn, gW_put _ hgn, w2, w3, w4]
      have := w5 ⟨u4, u5⟩
      refine ⟨by dsimp only; omega, by dsimp only; omega, by dsimp only; omega, by omega, by omega⟩
  · intro e he
    have hsome : ∀ s, look E s ≠ none → look (mergeF E M) s ≠ none := fun s hs => by
      rw [(hlk s).1]
      cases h' : look E s with
      | none => exact absurd h' hs
      | some r => simp
    rcases (mem_put iK).1 he with rfl | ⟨he, _⟩
    · exact ⟨hl, fun p hp => ⟨(check_right hc p hp).1, (check_right hc p hp).2, hsome _ (check_some hc p hp), hz p hp⟩⟩
    · refine ⟨(h.pls e he).1, fun p hp => ?_⟩
      obtain ⟨k1, k2, k3, k4⟩ := (h.pls e he).2 p hp
      exact ⟨k1, k2, hsome _ k3, k4⟩
  · refine List.ext_getElem (by simp [hlen]) fun i h1 h2 => ?_
    simp only [List.length_map] at h1 h2
    simp only [List.getElem_map]
    obtain ⟨r, hr, _, hcr⟩ := hcore _ (List.getElem_mem h1)
    have hki : (mergeF E M)[i].1 = E[i].1 := by
      have : ((mergeF E M).map (·.1))[i]'(by simpa using h1) = (E.map (·.1))[i]'(by simpa using h2) := by simp only [hk]
      simpa using this
    rw [hki, look_of_mem h.apE (show (E[i].1, E[i].2) ∈ E from List.getElem_mem h2)] at hr
    cases hr
    exact hcr

theorem Inv.give (h : Inv E G) {g : Int} {r : Grp} (hg : look G g = some r) (hG : G.length ≤ 1000) : ∃ E', giveF E r.ps = some E' ∧ Inv E' (del G g) ∧ E'.map (·.1) = E.map (·.1) ∧ E'.map (fun e => e.2.core) = E.map (fun e => e.2.core) := by
  have hmem := mem_of_look hg
  obtain ⟨p1, p2⟩ := h.pls _ hmem
  have hd := fun (f : Pl → Int) (s : ByteArray) => gW_del (f := f) (s := s) h.apG hg
  have hsub : ∀ e ∈ del G g, e ∈ G := fun e he => (mem_del.1 he).1
  have hn1 : ∀ s, 0 ≤ gW (·.cpu) s (del G g) := fun s => gW_nonneg fun e he p hp => ((h.pls e (hsub e he)).2 p hp).1
  have hn2 : ∀ s, 0 ≤ gW (·.mem) s (del G g) := fun s => gW_nonneg fun e he p hp => ((h.pls e (hsub e he)).2 p hp).2.1
  have hn3 : ∀ s, 0 ≤ gW (fun _ => 1) s (del G g) := fun s => gW_nonneg fun e he p hp => by decide
  obtain ⟨E', k1, k2, k3⟩ := give_look (ps := r.ps) (E := E) h.rise (fun p hp => ⟨(p2 p hp).1, (p2 p hp).2.1, (p2 p hp).2.2.1⟩) (fun s r' hl => by
    obtain ⟨u1, u2, u3, u4, u5⟩ := h.uses s r' hl
    have d1 := hd (·.cpu) s
    have d2 := hd (·.mem) s
    have d3 := hd (fun _ => 1) s
    have n1 := hn1 s
    have n2 := hn2 s
    have n3 := hn3 s
    have hc := (h.count s).2
    refine ⟨by omega, by omega, by omega, by omega⟩)
  have hlen : E'.length = E.length := by
    have := congrArg List.length k2
    simpa using this
  have hapE : Apart E' := by
    unfold Apart
    have : Rises (E'.map (·.1)) := by rw [k2]; exact h.rise
    unfold Rises at this
    rw [List.pairwise_map] at this
    exact this.imp fun hh e => by rw [e, sb_irrefl] at hh; cases hh
  have hcore : ∀ e ∈ E', ∃ r0, look E e.1 = some r0 ∧ e.2.core = r0.core := by
    intro e he
    have hm := look_of_mem hapE (show (e.1, e.2) ∈ _ from he)
    rw [k3 e.1] at hm
    cases hl' : look E e.1 with
    | none => rw [hl'] at hm; cases hm
    | some r0 =>
      rw [hl'] at hm
      simp only [Option.map_some, Option.some.injEq] at hm
      exact ⟨r0, rfl, by rw [← hm]; rfl⟩
  refine ⟨E', k1, ⟨by rw [k2]; exact h.rise, hapE, h.apG.del g, ?_, ?_, ?_, ?_, by rw [hlen]; exact h.lenE, fun e he => by
      obtain ⟨r, hr, hcr⟩ := hcore e he
      have hm := h.marks _ (mem_of_look hr)
      have e1 : e.2.xs = r.xs := congrArg (fun x => x.2.2.2.1) hcr
      have e2 : e.2.ys = r.ys := congrArg (fun x => x.2.2.2.2.1) hcr
      rw [e1, e2]; exact hm⟩, k2, ?_⟩
  · intro e he
    obtain ⟨r0, hr, hcr⟩ := hcore e he
    have hm := h.named _ (mem_of_look hr)
    exact ⟨(congrArg (fun x => x.1) hcr).trans hm.1, hm.2⟩
  · intro e he
    obtain ⟨r0, hr, hcr⟩ := hcore e he
    have hm := h.cap _ (mem_of_look hr)
    have e1 : e.2.cpu = r0.cpu := congrArg (fun x => x.2.1) hcr
    have e2 : e.2.mem = r0.mem := congrArg (fun x => x.2.2.1) hcr
    rw [e1, e2]; exact hm
  · intro s r' hl'
    rw [k3] at hl'
    cases he : look E s with
    | none => rw [he] at hl'; cases hl'
    | some r0 =>
      rw [he] at hl'
      simp only [Option.map_some, Option.some.injEq] at hl'
      obtain ⟨u1, u2, u3, u4, u5⟩ := h.uses s r0 he
      have d1 := hd (·.cpu) s
      have d2 := hd (·.mem) s
      have d3 := hd (fun _ => 1) s
      have s1 := sW_nonneg (f := (·.cpu)) (s := s) (ps := r.ps) (fun p hp => (p2 p hp).1)
      have s2 := sW_nonneg (f := (·.mem)) (s := s) (ps := r.ps) (fun p hp => (p2 p hp).2.1)
      rw [← hl']
      refine ⟨by simp only; omega, by simp only; omega, by simp only; omega, by simp only; omega, by simp only; omega⟩
  · intro e he
    refine ⟨(h.pls e (hsub e he)).1, fun p hp => ?_⟩
    obtain ⟨q1, q2, q3, q4⟩ := (h.pls e (hsub e he)).2 p hp
    refine ⟨q1, q2, ?_, q4⟩
    rw [k3]
    cases h' : look E p.node with
    | none => exact absurd h' q3
    | some r => simp
  · refine List.ext_getElem (by simp [hlen]) fun i h1 h2 => ?_
    simp only [List.length_map] at h1 h2
    simp only [List.getElem_map]
    obtain ⟨r0, hr, hcr⟩ := hcore _ (List.getElem_mem h1)
    have hki : E'[i].1 = E[i].1 := by
      have : (E'.map (·.1))[i]'(by simpa using h1) = (E.map (·.1))[i]'(by simpa using h2) := by simp only [k2]
      simpa using this
    rw [hki, look_of_mem h.apE (show (E[i].1, E[i].2) ∈ E from List.getElem_mem h2)] at hr
    cases hr
    exact hcr

theorem sW_one_zero {s : ByteArray} : ∀ {ps : List Pl}, sW (fun _ => 1) s ps = 0 → ∀ p ∈ ps, p.node ≠ s
  | [], _, p, hp => by cases hp
  | q :: t, h, p, hp => by
    have := sW_one_le (s := s) t
    unfold sW at h
    split at h
    · omega
    · rename_i hq
      rcases List.mem_cons.1 hp with rfl | hp
      · exact hq
      · exact sW_one_zero (by omega) p hp
theorem gW_one_zero {s : ByteArray} : ∀ {G : List (Int × Grp)}, gW (fun _ => 1) s G = 0 → ∀ e ∈ G, ∀ p ∈ e.2.ps, p.node ≠ s
  | [], _, e, he => by cases he
  | y :: t, h, e, he => by
    have h1 := sW_one_le (s := s) y.2.ps
    have h2 : 0 ≤ gW (fun _ => 1) s t := gW_nonneg fun _ _ _ _ => by decide
    unfold gW at h
    rcases List.mem_cons.1 he with rfl | he
    · exact sW_one_zero (by omega)
    · exact gW_one_zero (by omega) e he
theorem Inv.gone (h : Inv E G) {s : ByteArray} (hA : goneE E s = 0) : Inv (del E s) G := by
  have hk : ∀ e ∈ G, ∀ p ∈ e.2.ps, p.node ≠ s := by
    unfold goneE at hA
    cases hl : look E s with
    | none => rw [hl] at hA; cases hA
    | some r =>
      rw [hl] at hA
      simp only at hA
      split at hA
      · cases hA
      · rename_i hr
        have := (h.uses s r hl).2.2.1
        have h2 := (h.count s).1
        exact gW_one_zero (by omega)
  refine ⟨?_, h.apE.del s, h.apG, fun e he => h.named e (mem_del.1 he).1, fun e he => h.cap e (mem_del.1 he).1, ?_, ?_, ?_, fun e he => h.marks e (mem_del.1 he).1⟩
  · have := h.rise
    unfold Rises at *
    rw [List.pairwise_map] at *
    exact List.Pairwise.filter _ this
  · intro t r hl
    rw [look_del] at hl
    split at hl
    · cases hl
    · exact h.uses t r hl
  · intro e he
    refine ⟨(h.pls e he).1, fun p hp => ?_⟩
    obtain ⟨q1, q2, q3, q4⟩ := (h.pls e he).2 p hp
    refine ⟨q1, q2, ?_, q4⟩
    rw [look_del, if_neg (hk e he p hp)]
    exact q3
  · have := h.lenE
    have h2 : (del E s).length ≤ E.length := List.length_filter_le _ _
    omega
end

end Go.Proofs.YthneemgpifbehaaGreatDoor

/- Ledgers of nodes without gangs: one more, or one anew. -/
namespace Go.Proofs.YthneemgpifbehaaGreatDoor
open Go.RowKit Go.Maps

/-- Between two rounds: the nodes, the names. -/
structure ES (w : World) (L : Nat) (fp : Nat → Prop) (p q : Option Nat) (E : List (ByteArray × Rec)) (wr : World) : Prop where
  led : IsL wr L fp p q E []
  eight : E.length ≤ 8
  ok : ∀ e ∈ E, e.2.u = 0 ∧ e.2.m = 0 ∧ e.2.nm = e.1 ∧ e.1.size ≤ maxLen
  fw : ∀ b, fp b → w.heap.size ≤ b
  bel : Below w.heap.size w wr
theorem ES.later {w : World} {L : Nat} {fp : Nat → Prop} {p q : Option Nat} {E : List (ByteArray × Rec)} {wr wr' : World} (h : ES w L fp p q E wr) (hb : Below wr.heap.size wr wr') : ES w L fp p q E wr' := ⟨h.led.later hb, h.eight, h.ok, h.fw, h.bel.trans (hb.mono h.bel.size)⟩
theorem NMap.rises {w : World} {p : Option Nat} {E : List (ByteArray × Rec)} (h : NMap w p E) : Rises (E.map (·.1)) := by
  rcases h with ⟨_, rfl⟩ | ⟨b, _, h⟩
  · exact List.Pairwise.nil
  · have := h.rising
    unfold Rises
    rw [List.pairwise_map] at this ⊢
    exact this

/-- One name more, or one anew. -/
theorem ES.put {w : World} {L : Nat} {fp : Nat → Prop} {p q : Option Nat} {E : List (ByteArray × Rec)} {wr : World} (h : ES w L fp p q E wr) (k : Nat) (hk : k < 12) (i : Int) (hi : 0 ≤ i ∧ i ≤ 1000) (A : Int) (hA : (if look E (sN k) = none ∧ 8 ≤ E.length then 3 else 0) = A) :
    Calls Tryz.prog 60 #[.pointer (some ⟨L, 0, none⟩), .agg #[.string (sN k), .int .i64 i, .int .i64 0, .slice none 0 0, .slice none 0 0, .bool false]] wr fun e w' => e = .returned (.int .i64 A) ∧
      ∃ fp' p' q' E', ES w L fp' p' q' E' w' ∧ E'.map (·.1) = (if look E (sN k) = none ∧ E.length < 8 then (E.map (·.1)).take (atN (sN k) (E.map (·.1))) ++ sN k :: (E.map (·.1)).drop (atN (sN k) (E.map (·.1))) else E.map (·.1)) ∧ (∀ b, fp' b → fp b ∨ wr.heap.size ≤ b) ∧ Kept fp wr w' := by
  have hz : ((look E (sN k)).getD zrec).u = 0 ∧ ((look E (sN k)).getD zrec).m = 0 := by
    cases hl : look E (sN k) with
    | none => exact ⟨rfl, rfl⟩
    | some r => have := h.ok _ (mem_of_look hl); exact ⟨this.1, this.2.1⟩
  have hP : putE E (sN k) i 0 [] [] = A := by
    unfold putE
    rw [sN_node k hk i (by omega), hz.1, hz.2, ← hA]
    simp [hi.1]
  refine (put_any wr L fp p q E [] h.led (sN k) i 0 none none 0 0 0 0 false [] [] (sN_small k) ⟨by simp, by simp⟩ ⟨by simp, by simp⟩ rfl rfl SP.none SP.none (by intro x hx; cases hx) (by intro x hx; cases hx) (by have := h.eight; unfold maxLen; omega)).mono ?_
  rintro e w' ⟨rfl, hQ⟩
  rw [hP] at hQ ⊢
  obtain ⟨fp', p', q', a3, c3, a4, c4, hI, g1, g2, g3, g4⟩ := hQ
  have hfw : ∀ b, fp' b → w.heap.size ≤ b := fun b hb => (g2 b hb).elim (h.fw b) (fun hh => Nat.le_trans h.bel.size hh)
  have hbel : Below w.heap.size w w' := h.bel.trans (g3.below h.bel.size h.fw)
  by_cases hc : look E (sN k) = none ∧ 8 ≤ E.length
  · rw [if_pos hc] at hA
    subst hA
    rw [if_neg (by decide)] at hI
    refine ⟨rfl, fp', p', q', E, ⟨hI, h.eight, h.ok, hfw, hbel⟩, ?_, g2, g3⟩
    rw [if_neg (by omega)]
  · rw [if_neg hc] at hA
    subst hA
    rw [if_pos rfl] at hI
    refine ⟨rfl, fp', p', q', _, ⟨hI, ?_, ?_, hfw, hbel⟩, ?_, g2, g3⟩
    · have := h.eight
      rw [length_put sK h.led.nodes.apart]
      split
      · exact this
      · rename_i hn
        have : look E (sN k) = none := by simpa using hn
        have : ¬ 8 ≤ E.length := fun h8 => hc ⟨this, h8⟩
        omega
    · intro e he
      rcases (mem_put sK).1 he with rfl | ⟨he, _⟩
      · exact ⟨hz.1, hz.2, rfl, sN_small k⟩
      · exact h.ok e he
    · by_cases hn : look E (sN k) = none
      · rw [if_pos ⟨hn, by have : ¬ 8 ≤ E.length := fun h8 => hc ⟨hn, h8⟩; omega⟩, put_keys_new _ hn]
      · rw [if_neg (fun hh => hn hh.1), put_keys_has _ h.led.nodes.rises hn]

end Go.Proofs.YthneemgpifbehaaGreatDoor

/- The contracts of package ledger at ledgers in order. -/
namespace Go.Proofs.YthneemgpifbehaaGreatDoor
open Go.RowKit Go.Maps

/-- Block L is a ledger in order, in these blocks. -/
def Led (w : World) (L : Nat) (fp : Nat → Prop) (E : List (ByteArray × Rec)) (G : List (Int × Grp)) : Prop := Inv E G ∧ ∃ p q, IsL w L fp p q E G

section
variable {w w' : World} {L : Nat} {fp : Nat → Prop} {E : List (ByteArray × Rec)} {G : List (Int × Grp)}
theorem Led.later (h : Led w L fp E G) (hb : Below w.heap.size w w') : Led w' L fp E G := ⟨h.1, h.2.elim fun p h => h.elim fun q h => ⟨p, q, h.later hb⟩⟩
theorem Led.frame (h : Led w L fp E G) (hk : ∀ b, fp b → w'.heap[b]? = w.heap[b]?) (hs : w.heap.size ≤ w'.heap.size) : Led w' L fp E G := ⟨h.1, h.2.elim fun p h => h.elim fun q h => ⟨p, q, h.frame hk hs⟩⟩
theorem Led.outs (h : Led w L fp E G) : ¬ fp w.heap.size := h.2.elim fun _ h => h.elim fun _ h => h.outs
theorem Led.lt (h : Led w L fp E G) : ∀ b, fp b → b < w.heap.size := h.2.elim fun _ h => h.elim fun _ h => h.lt
end

theorem newL (w : World) : Calls Tryz.prog 54 #[] w fun e w' => ∃ L fp, e = .returned (.pointer (some ⟨L, 0, none⟩)) ∧ Led w' L fp [] [] ∧ (∀ b, fp b → w.heap.size ≤ b) ∧ Below w.heap.size w w' :=
  (new_any w).mono fun _ _ ⟨L, fp, h1, h2, h3, h4⟩ => ⟨L, fp, h1, ⟨Inv.nil, none, none, h2⟩, h3, h4⟩

/-- What is turned: the blocks, and what lies beside them stays. -/
structure Turn (w w' : World) (fp fp' : Nat → Prop) : Prop where
  more : ∀ b, fp b → fp' b
  new : ∀ b, fp' b → fp b ∨ w.heap.size ≤ b
  kept : Kept fp w w'
theorem Turn.of_below {w w' : World} {fp : Nat → Prop} (h : Below w.heap.size w w') : Turn w w' fp fp := ⟨fun _ h => h, fun _ h => .inl h, .of_below h⟩
theorem Turn.low {w0 w w' : World} {fp fp' : Nat → Prop} (h : Turn w w' fp fp') (hf : ∀ b, fp b → w0.heap.size ≤ b) (hb : w0.heap.size ≤ w.heap.size) : ∀ b, fp' b → w0.heap.size ≤ b := fun b hb' => (h.new b hb').elim (hf b) (fun h' => Nat.le_trans hb h')
theorem Turn.below {w0 w w' : World} {fp fp' : Nat → Prop} (h : Turn w w' fp fp') (hf : ∀ b, fp b → w0.heap.size ≤ b) (hb : Below w0.heap.size w0 w) : Below w0.heap.size w0 w' := hb.trans (h.kept.below hb.size hf)

theorem putL (w : World) (L : Nat) (fp : Nat → Prop) (E : List (ByteArray × Rec)) (G : List (Int × Grp)) (h : Led w L fp E G)
    (s : ByteArray) (cpu mem : Int) (a1 a2 : Option Addr) (n1 n2 c1 c2 : Nat) (al : Bool) (xs ys : List ByteArray) (hs : s.size ≤ maxLen) (h1 : Strs w a1 xs) (h2 : Strs w a2 ys) (e1 : xs.length = n1) (e2 : ys.length = n2) (s1 : SP a1) (s2 : SP a2)
    (f1 : ∀ x, a1 = some x → xs ≠ [] → ¬ fp x.block) (f2 : ∀ x, a2 = some x → ys ≠ [] → ¬ fp x.block) (hxs : ∀ t ∈ xs, t.size ≤ maxLen) (hys : ∀ t ∈ ys, t.size ≤ maxLen) :
    Calls Tryz.prog 60 #[.pointer (some ⟨L, 0, none⟩), .agg #[.string s, .int .i64 cpu, .int .i64 mem, .slice a1 n1 c1, .slice a2 n2 c2, .bool al]] w fun e w' => e = .returned (.int .i64 (putE E s cpu mem xs ys)) ∧
      ∃ fp' E' a3 c3 a4 c4, Led w' L fp' E' G ∧ E' = (if putE E s cpu mem xs ys = 0 then put sK E s ⟨s, cpu, mem, a3, c3, xs, a4, c4, ys, al, ((look E s).getD zrec).u, ((look E s).getD zrec).m, ((look E s).getD zrec).k⟩ else E) ∧ Turn w w' fp fp' := by
  obtain ⟨hI, p, q, hL⟩ := h
  refine (put_any w L fp p q E G hL s cpu mem a1 a2 n1 n2 c1 c2 al xs ys hs h1 h2 e1 e2 s1 s2 f1 f2 (by have := hI.lenE; unfold maxLen; omega)).mono ?_
  rintro e w' ⟨rfl, hP⟩
  obtain ⟨fp', p', q', a3, c3, a4, c4, hI', g1, g2, g3, _⟩ := hP
  refine ⟨rfl, fp', _, a3, c3, a4, c4, ⟨?_, p', q', hI'⟩, rfl, ⟨g1, g2, g3⟩⟩
  by_cases hA : putE E s cpu mem xs ys = 0
  · rw [if_pos hA] at hI' ⊢
    exact hI.put hs hxs hys hA hI'.nodes.rises
  · rw [if_neg hA]
    exact hI

theorem takeL (w : World) (L : Nat) (fp : Nat → Prop) (E : List (ByteArray × Rec)) (G : List (Int × Grp)) (h : Led w L fp E G) (g : Int) (hg : (Lit.int .i64 g).wf = true) (a : Option Addr) (n c : Nat) (ps : List Pl) (hP : Pls w a ps) (hl : ps.length = n) (hsp : SP a)
    (hz : ∀ p ∈ ps, p.node.size ≤ maxLen) (hfa : ∀ x, a = some x → ps ≠ [] → ¬ fp x.block) (h8 : ps.length ≤ 8) (hGl : G.length ≤ 1000) :
    Calls Tryz.prog 111 #[.pointer (some ⟨L, 0, none⟩), .int .i64 g, .slice a n c] w fun e w' => e = .returned (.int .i64 (takeE E G g ps)) ∧
      ∃ fp' E' G' a' c', Led w' L fp' E' G' ∧ G' = (if takeE E G g ps = 0 then put iK G g ⟨a', c', ps⟩ else G) ∧ E'.map (·.1) = E.map (·.1) ∧ E'.map (fun e => e.2.core) = E.map (fun e => e.2.core) ∧ Turn w w' fp fp' := by
  obtain ⟨hI, p, q, hL⟩ := h
  refine (take_any w L fp p q E G hL hI.fair g hg a n c ps hP hl hsp hz hfa (by have := hI.lenE; omega) hGl).mono ?_
  rintro e w' ⟨rfl, hT⟩
  rcases hT with ⟨hA, hb⟩ | ⟨hA, fp', M, a', c', hw, hI', g1, g2, g3⟩
  · exact ⟨rfl, fp, E, G, none, 0, ⟨hI, p, q, hL.later hb⟩, by rw [if_neg hA], rfl, rfl, .of_below hb⟩
  · obtain ⟨k1, k2, k3⟩ := hI.take (a := a') (c := c') hA hw h8 hGl hz
    exact ⟨rfl, fp', _, _, a', c', ⟨k1, p, q, hI'⟩, by rw [if_pos hA], k2, k3, ⟨g1, g2, g3⟩⟩

/-- What Give answers. -/
def giveE (G : List (Int × Grp)) (g : Int) : Int := if (look G g).isSome then 0 else 5
theorem del_same {G : List (Int × Grp)} {g : Int} (h : look G g = none) : del G g = G := del_none h
theorem giveL (w : World) (L : Nat) (fp : Nat → Prop) (E : List (ByteArray × Rec)) (G : List (Int × Grp)) (h : Led w L fp E G) (g : Int) (hg : (Lit.int .i64 g).wf = true) (hGl : G.length ≤ 1000) :
    Calls Tryz.prog 114 #[.pointer (some ⟨L, 0, none⟩), .int .i64 g] w fun e w' => e = .returned (.int .i64 (giveE G g)) ∧
      ∃ E', Led w' L fp E' (del G g) ∧ E'.map (·.1) = E.map (·.1) ∧ E'.map (fun e => e.2.core) = E.map (fun e => e.2.core) ∧ Turn w w' fp fp := by
  obtain ⟨hI, p, q, hL⟩ := h
  cases hl : look G g with
  | none =>
    refine (give_none w L fp p q E G hL g hg hl).mono ?_
    rintro e w' ⟨rfl, rfl⟩
    refine ⟨by simp [giveE, hl], E, ⟨by rw [del_same hl]; exact hI, p, q, by rw [del_same hl]; exact hL⟩, rfl, rfl, .of_below (Below.refl _ _)⟩
  | some r =>
    obtain ⟨a, c, ps⟩ := r
    obtain ⟨E', k1, k2, k3, k4⟩ := hI.give hl hGl
    have hp := hI.pls _ (mem_of_look hl)
    refine (give_some w L fp p q E E' G hL g hg a c ps hl k1 hI.fair (fun p hp' => (hp.2 p hp').2.2.2) (fun p hp' => ⟨(hp.2 p hp').1, (hp.2 p hp').2.1⟩) (by have := hI.lenE; omega)).mono ?_
    rintro e w' ⟨rfl, h1, h2⟩
    exact ⟨by simp [giveE, hl], E', ⟨k2, p, q, h1⟩, k3, k4, ⟨fun _ h => h, fun _ h => .inl h, h2⟩⟩

theorem goneL (w : World) (L : Nat) (fp : Nat → Prop) (E : List (ByteArray × Rec)) (G : List (Int × Grp)) (h : Led w L fp E G) (s : ByteArray) (hs : s.size ≤ maxLen) :
    Calls Tryz.prog 79 #[.pointer (some ⟨L, 0, none⟩), .string s] w fun e w' => e = .returned (.int .i64 (goneE E s)) ∧ Led w' L fp (if goneE E s = 0 then del E s else E) G ∧ Turn w w' fp fp := by
  obtain ⟨hI, p, q, hL⟩ := h
  refine (gone_any w L fp p q E G hL s hs).mono ?_
  rintro e w' ⟨rfl, h1, h2⟩
  refine ⟨rfl, ⟨?_, p, q, h1⟩, ⟨fun _ h => h, fun _ h => .inl h, h2⟩⟩
  by_cases hA : goneE E s = 0
  · rw [if_pos hA]; exact hI.gone hA
  · rw [if_neg hA]; exact hI

theorem usedL (w : World) (L : Nat) (fp : Nat → Prop) (E : List (ByteArray × Rec)) (G : List (Int × Grp)) (h : Led w L fp E G) (s : ByteArray) (hs : s.size ≤ maxLen) :
    Calls Tryz.prog 62 #[.pointer (some ⟨L, 0, none⟩), .string s] w fun e w' => e = .returned (.tuple #[.agg #[.int .i64 (gW (·.cpu) s G), .int .i64 (gW (·.mem) s G)], .int .i64 (gW (fun _ => 1) s G)]) ∧ Below w.heap.size w w' := by
  obtain ⟨hI, p, q, hL⟩ := h
  have := used_any w L fp p q E G hL s hs
  obtain ⟨h1, h2, h3⟩ := hI.used s
  rwa [h1, h2, h3] at this
theorem placesL (w : World) (L : Nat) (fp : Nat → Prop) (E : List (ByteArray × Rec)) (G : List (Int × Grp)) (h : Led w L fp E G) (g : Int) (hg : (Lit.int .i64 g).wf = true) (ps : List Pl) (n : Nat) (hps : ((look G g).getD zgrp).ps = ps) (hn : ps.length = n) :
    Calls Tryz.prog 68 #[.pointer (some ⟨L, 0, none⟩), .int .i64 g] w fun e w' => ∃ a c, e = .returned (.slice a n c) ∧ Pls w' a ps ∧ SP a ∧ (∀ x, a = some x → w.heap.size ≤ x.block ∧ x.block < w'.heap.size) ∧ n ≤ c ∧ Below w.heap.size w w' := by
  obtain ⟨hI, p, q, hL⟩ := h
  subst hps hn
  exact places_any w L fp p q E G hL g hg
theorem nodesL (w : World) (L : Nat) (fp : Nat → Prop) (E : List (ByteArray × Rec)) (G : List (Int × Grp)) (h : Led w L fp E G) :
    Calls Tryz.prog 95 #[.pointer (some ⟨L, 0, none⟩)] w fun e w' => ∃ g c l, e = .returned (.slice (some ⟨g, 0, none⟩) E.length c) ∧ Nds w' w.heap.size (some ⟨g, 0, none⟩) l ∧ l.map Rec.core = E.map (fun e => e.2.core) ∧ E.length ≤ c ∧ Below w.heap.size w w' := by
  obtain ⟨hI, p, q, hL⟩ := h
  exact nodes_any w L fp p q E G hL (by have := hI.lenE; omega) hI.size

end Go.Proofs.YthneemgpifbehaaGreatDoor
