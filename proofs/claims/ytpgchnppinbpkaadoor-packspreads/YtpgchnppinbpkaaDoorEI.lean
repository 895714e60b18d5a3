/- Names in rising order: where a new one goes. -/
import Derived.Test.YtpgchnppinbpkaaDoorTK
import Derived.Test.YtpgchnppinbpkaaDoorGV
import Derived.Test.YtpgchnppinbpkaaDoorPU
import Derived.Test.YtpgchnppinbpkaaDoorNO
import Derived.Laws.IdiomStrings
namespace Go.Proofs.YtpgchnppinbpkaaDoor
open Go.RowKit Go.Maps

/-- Is the one text ahead of the other one? -/
def sb (a b : ByteArray) : Bool := bytesBefore a.data.toList b.data.toList
/-- How many stand ahead of a text. -/
def atN (s : ByteArray) : List ByteArray → Nat
  | [] => 0
  | y :: t => if sb s y then 0 else atN s t + 1
theorem atN_le (s : ByteArray) : ∀ l : List ByteArray, atN s l ≤ l.length
  | [] => Nat.le_refl _
  | y :: t => by
    unfold atN
    split
    · simp
    · have := atN_le s t; simp; omega
theorem atN_lt (s : ByteArray) : ∀ (l : List ByteArray) (k : Nat) (hk : k < l.length), k < atN s l → sb s l[k] = false
  | y :: t, k, hk, h => by
    unfold atN at h
    split at h
    · omega
    · rename_i hy
      cases k with
      | zero => simpa using hy
      | succ k => simpa using atN_lt s t k (by simpa using hk) (by omega)
theorem atN_at (s : ByteArray) : ∀ (l : List ByteArray) (h : atN s l < l.length), sb s l[atN s l] = true
  | [], h => by simp at h
  | y :: t, h => by
    by_cases hy : sb s y = true
    · have e : atN s (y :: t) = 0 := by show (if sb s y then 0 else atN s t + 1) = 0; rw [if_pos hy]
      simp [e, hy]
    · have e : atN s (y :: t) = atN s t + 1 := by show (if sb s y then 0 else atN s t + 1) = _; rw [if_neg hy]
      have := atN_at s t (by rw [e] at h; simpa using h)
      simp [e, this]
theorem ins_keys (s : ByteArray) (r : Rec) : ∀ M : List (ByteArray × Rec), (ins sK (s, r) M).map (·.1) = (M.map (·.1)).take (atN s (M.map (·.1))) ++ s :: (M.map (·.1)).drop (atN s (M.map (·.1)))
  | [] => rfl
  | y :: t => by
    have hb : (sK s).before (sK y.1) = sb s y.1 := rfl
    simp only [ins, List.map_cons, hb, atN]
    split
    · simp
    · simp [ins_keys s r t]
def Rises (l : List ByteArray) : Prop := l.Pairwise (fun a b => sb a b = true)
theorem sb_irrefl (a : ByteArray) : sb a a = false := WideAt.bytes_irrefl _
theorem sb_trans {a b c : ByteArray} (h : sb a b = true) (h' : sb b c = true) : sb a c = true := WideShapes.bytes_trans _ _ _ h h'
theorem put_keys_new {M : List (ByteArray × Rec)} {s : ByteArray} (r : Rec) (h : look M s = none) : (put sK M s r).map (·.1) = (M.map (·.1)).take (atN s (M.map (·.1))) ++ s :: (M.map (·.1)).drop (atN s (M.map (·.1))) := by
  unfold put
  rw [del_none h, ins_keys]
theorem put_keys_has {s : ByteArray} (r : Rec) : ∀ {M : List (ByteArray × Rec)}, Rises (M.map (·.1)) → look M s ≠ none → (put sK M s r).map (·.1) = M.map (·.1)
  | [], _, h => absurd rfl h
  | y :: t, hr, h => by
    unfold Rises at hr
    rw [List.map_cons, List.pairwise_cons] at hr
    obtain ⟨h1, h2⟩ := hr
    by_cases e : y.1 = s
    · have hn : look t s = none := by
        cases hl : look t s with
        | none => rfl
        | some x =>
          have := h1 s (List.mem_map.2 ⟨_, mem_of_look hl, rfl⟩)
          rw [e, sb_irrefl] at this
          cases this
      have hd : del (y :: t) s = t := by
        have : del (y :: t) s = del t s := by simp [del, e]
        rw [this, del_none hn]
      unfold put
      rw [hd]
      cases t with
      | nil => simp [ins, e]
      | cons z u =>
        have hz : (sK s).before (sK z.1) = true := by rw [← e]; exact h1 z.1 (by simp)
        simp [ins, hz, e]
    · have hs : look t s ≠ none := by rw [look_cons, if_neg e] at h; exact h
      have hb : ¬ (sK s).before (sK y.1) = true := by
        intro hb
        cases hl : look t s with
        | none => exact hs hl
        | some x =>
          have := sb_trans (show sb s y.1 = true from hb) (h1 s (List.mem_map.2 ⟨_, mem_of_look hl, rfl⟩))
          rw [sb_irrefl] at this
          cases this
      have hd : del (y :: t) s = y :: del t s := by simp [del, e]
      have ih := put_keys_has r (M := t) h2 hs
      unfold put at ih ⊢
      rw [hd]
      simp only [ins, if_neg hb, List.map_cons, ih]
/-- A text is among rising ones just where it is among those ahead. -/
theorem has_front {l : List ByteArray} (hr : Rises l) (s : ByteArray) : s ∈ l ↔ s ∈ l.take (atN s l) := by
  induction l with
  | nil => simp
  | cons y t ih =>
    unfold Rises at hr
    rw [List.pairwise_cons] at hr
    unfold atN
    split
    · rename_i hy
      simp only [List.take_zero, List.not_mem_nil, iff_false, List.mem_cons, not_or]
      refine ⟨fun e => ?_, fun hm => ?_⟩
      · rw [e, sb_irrefl] at hy; cases hy
      · have := sb_trans hy (hr.1 s hm)
        rw [sb_irrefl] at this
        cases this
    · simp [ih hr.2]
theorem look_iff {M : List (ByteArray × Rec)} (s : ByteArray) : look M s ≠ none ↔ s ∈ M.map (·.1) := by
  constructor
  · intro h
    cases hl : look M s with
    | none => exact absurd hl h
    | some x => exact List.mem_map.2 ⟨_, mem_of_look hl, rfl⟩
  · intro h hn
    obtain ⟨p, hp, e⟩ := List.mem_map.1 h
    exact look_none hn p hp e

theorem less_before : ∀ (a b : List UInt8), Op.bytesLess a b = bytesBefore a b
  | [], [] => rfl
  | [], _ :: _ => rfl
  | _ :: _, [] => rfl
  | x :: r, y :: t => by
    have ih := less_before r t
    unfold Op.bytesLess bytesBefore
    rw [ih]
theorem leq_sb (a b : ByteArray) : (Op.bytesLess a.toList b.toList || a.toList == b.toList) = !sb b a := by
  unfold sb
  rw [less_before, ByteArray.toList_eq, ByteArray.toList_eq]
  by_cases h : a.data.toList = b.data.toList
  · rw [h, WideAt.bytes_irrefl]; simp
  · rcases WideAt.bytes_total _ _ h with h1 | h1
    · have h2 : bytesBefore b.data.toList a.data.toList = false := by
        cases h3 : bytesBefore b.data.toList a.data.toList with
        | false => rfl
        | true => have := WideShapes.bytes_trans _ _ _ h1 h3; rw [WideAt.bytes_irrefl] at this; cases this
      simp [h1, h2]
    · have h2 : bytesBefore a.data.toList b.data.toList = false := by
        cases h3 : bytesBefore a.data.toList b.data.toList with
        | false => rfl
        | true => have := WideShapes.bytes_trans _ _ _ h1 h3; rw [WideAt.bytes_irrefl] at this; cases this
      simp [h1, h2]
      exact fun e => h (by rw [e])

/-- The twelve names. -/
def sN (k : Nat) : ByteArray := ⟨#[110, UInt8.ofNat (97 + k)]⟩
theorem sN_node (k : Nat) (hk : k < 12) (i : Int) (hi : 0 ≤ i ∧ i ≤ 1099511627776) : nodeE (sN k) i 0 [] [] = 0 := by
  have e1 : isName (sN k) = true := by
    rcases (by omega : k = 0 ∨ k = 1 ∨ k = 2 ∨ k = 3 ∨ k = 4 ∨ k = 5 ∨ k = 6 ∨ k = 7 ∨ k = 8 ∨ k = 9 ∨ k = 10 ∨ k = 11) with rfl | rfl | rfl | rfl | rfl | rfl | rfl | rfl | rfl | rfl | rfl | rfl <;> decide +kernel
  have e2 : sizeB i 0 = true := by unfold sizeB; simp; omega
  have e3 : setB [] = true := rfl
  unfold nodeE askE
  rw [e1, e2, e3]; rfl
theorem conv_byte (w : World) (m : Nat) (hm : m < 100) : (convert 56 9 (.slice (some ⟨w.heap.size, 0, none⟩) 1 1)).run Tryd.prog (w.alloc (.cells #[.int .u8 (97 + (m : Int))] 5)) =
    .ok (.string ⟨#[UInt8.ofNat (97 + m)]⟩) (w.alloc (.cells #[.int .u8 (97 + (m : Int))] 5)) := by
  refine run_convert_bytes_back (P := Tryd.prog) (w.alloc (.cells #[.int .u8 (97 + (m : Int))] 5)) 56 9 5 ⟨w.heap.size, 0, none⟩ 1 [UInt8.ofNat (97 + m)] Tryd.underlying56 Tryd.underlying5 Tryd.underlying9 ?_
  intro j hj
  have : j = 0 := by simp at hj; omega
  subst this
  simp [Addr.add]
  omega
theorem sN_small (k : Nat) : (sN k).size ≤ maxLen := by
  show 2 ≤ maxLen
  decide

end Go.Proofs.YtpgchnppinbpkaaDoor
