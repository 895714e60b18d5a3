/- A node and a pod that come in, read: what their cells are. -/
import Derived.Test.YtgcicillmljglaaF
import Derived.ProofKit
import Derived.OpenShut
import Derived.ShutString
import Derived.Deep.Strs
import Derived.ChangeSame
namespace Go.Proofs.Ytgcicillmljglaa
open Go.ChangeShapes Go.WideShapes Go.ChangeAt Go.RowKit Go.Deep

set_option linter.unusedSimpArgs false

section
variable {H : Type} {enc : TypeId × Value → H} {W : World} {base : Nat} {spare : Nat → Bool} {held : Bool}

/-- A row of texts that came in. -/
theorem strs_in {fuel : Nat} {v : Value} {x : DataW H × List MemPlace} (h : DataW.trod enc Try.prog W base spare held fuel 24 [v] = some x) :
    ∃ a n c ss, v = .slice a n c ∧ ss.length = n ∧ StrsIn W a ss ∧ (∀ s ∈ ss, s.size ≤ maxLen) ∧ n ≤ c := by
  rcases open_strs Try.underlying24 Try.underlying9 (by kernel_rfl) h with ⟨hcs, _⟩ | ⟨a, len, cap, m, Sx, hcs, _, hl, hm, hmm, _, hx⟩
  · refine ⟨none, 0, 0, [], by simpa using hcs, rfl, ⟨by simp, fun i hi => by simp at hi⟩, by simp, by simp⟩
  · have hlm : len ≤ m := by rw [hmm]; split <;> omega
    refine ⟨some a, len, cap, (List.range len).map Sx, by simpa using hcs, by simp, ⟨by simp; omega, fun i hi => ⟨a, rfl, ?_⟩⟩, fun s hs => ?_, hl⟩
    · have hi' : i < len := by simpa using hi
      rw [(hx i (by omega)).1]
      simp [List.getD, List.getElem?_eq_getElem, hi']
    · obtain ⟨i, hi, rfl⟩ := List.mem_map.1 hs
      exact (hx i (by have := List.mem_range.1 hi; omega)).2

theorem vec_in {fuel : Nat} {u v : Value} {x : DataW H × List MemPlace} (h : DataW.trod enc Try.prog W base spare held fuel 23 [u, v] = some x) : ∃ p q, u = .int .i64 p ∧ v = .int .i64 q := by
  obtain ⟨y0, y1, n, _, _, h0, h1⟩ := trod_struct2 Try.underlying23 h
  have c3 : Try.prog.cellsOf 3 = 1 := by kernel_rfl
  simp [c3] at h0 h1
  obtain ⟨p, hp, _⟩ := DataW.trod_int Try.underlying3 h0
  obtain ⟨q, hq, _⟩ := DataW.trod_int Try.underlying3 h1
  exact ⟨p, q, by simpa using hp, by simpa using hq⟩

theorem node_in {r : Reach} {b0 : Nat} {v : Value} {d : DataW H} {ps : List MemPlace} (hv : Value.okWide Try.prog W r b0 39 v) (h : DataW.Trod enc Try.prog W base spare held 39 v d ps) :
    ∃ s cpu mem a1 n1 c1 xs a2 n2 c2 ys al, v = .agg #[.string s, .int .i64 cpu, .int .i64 mem, .slice a1 n1 c1, .slice a2 n2 c2, .bool al] ∧ s.size ≤ maxLen ∧ xs.length = n1 ∧ StrsIn W a1 xs ∧ ys.length = n2 ∧ StrsIn W a2 ys := by
  obtain ⟨cs, rfl, hsz⟩ := okWide_struct Try.underlying39 hv
  obtain ⟨fuel, hf⟩ := h
  obtain ⟨xs, n, _, _, hl, hlen, hF⟩ := DataW.trod_struct Try.underlying39 hf
  have c0 : Try.prog.cellsOf 39 = 6 := by kernel_rfl
  rw [c0] at hsz
  obtain ⟨l⟩ := cs
  match l, hsz with
  | [v0, v1, v2, v3, v4, v5], _ =>
    match xs, hlen with
    | [y0, y1, y2, y3, y4], _ =>
      have h0 := hF 0 _ rfl
      have h1 := hF 1 _ rfl
      have h2 := hF 2 _ rfl
      have h3 := hF 3 _ rfl
      have h4 := hF 4 _ rfl
      have k9 : Try.prog.cellsOf 9 = 1 := by kernel_rfl
      have k3 : Try.prog.cellsOf 3 = 1 := by kernel_rfl
      have k23 : Try.prog.cellsOf 23 = 2 := by kernel_rfl
      have k24 : Try.prog.cellsOf 24 = 1 := by kernel_rfl
      have k4 : Try.prog.cellsOf 4 = 1 := by kernel_rfl
      simp [Value.cells, k9, k3, k23, k24, k4] at h0
      simp [Value.cells, k9, k3, k23, k24, k4] at h1
      simp [Value.cells, k9, k3, k23, k24, k4] at h2
      simp [Value.cells, k9, k3, k23, k24, k4] at h3
      simp [Value.cells, k9, k3, k23, k24, k4] at h4
      obtain ⟨s, hs, -, hm⟩ := DataW.trod_string Try.underlying9 h0
      obtain ⟨p, q, rfl, rfl⟩ := vec_in h1
      obtain ⟨a1, n1, c1, ss, rfl, e1, i1, -, -⟩ := strs_in h2
      obtain ⟨a2, n2, c2, ts, rfl, e2, i2, -, -⟩ := strs_in h3
      obtain ⟨b, hb, -⟩ := DataW.trod_bool Try.underlying4 h4
      obtain rfl : v0 = .string s := by simpa using hs
      obtain rfl : v5 = .bool b := by simpa using hb
      exact ⟨s, p, q, a1, n1, c1, ss, a2, n2, c2, ts, b, rfl, hm, e1, i1, e2, i2⟩

theorem pod_in {r : Reach} {b0 : Nat} {v : Value} {d : DataW H} {ps : List MemPlace} (hv : Value.okWide Try.prog W r b0 26 v) (h : DataW.Trod enc Try.prog W base spare held 26 v d ps) :
    ∃ s shard cpu mem a1 n1 c1 xs a2 n2 c2 ys al, v = .agg #[.string s, .int .i64 shard, .int .i64 cpu, .int .i64 mem, .slice a1 n1 c1, .slice a2 n2 c2, .bool al] ∧ s.size ≤ maxLen ∧ xs.length = n1 ∧ StrsIn W a1 xs ∧ ys.length = n2 ∧ StrsIn W a2 ys := by
  obtain ⟨cs, rfl, hsz⟩ := okWide_struct Try.underlying26 hv
  obtain ⟨fuel, hf⟩ := h
  obtain ⟨xs, n, _, _, hl, hlen, hF⟩ := DataW.trod_struct Try.underlying26 hf
  have c0 : Try.prog.cellsOf 26 = 7 := by kernel_rfl
  rw [c0] at hsz
  obtain ⟨l⟩ := cs
  match l, hsz with
  | [v0, v1, v2, v3, v4, v5, v6], _ =>
    match xs, hlen with
    | [y0, y1, y2, y3, y4, y5], _ =>
      have h0 := hF 0 _ rfl
      have h1 := hF 1 _ rfl
      have h2 := hF 2 _ rfl
      have h3 := hF 3 _ rfl
      have h4 := hF 4 _ rfl
      have h5 := hF 5 _ rfl
      have k9 : Try.prog.cellsOf 9 = 1 := by kernel_rfl
      have k3 : Try.prog.cellsOf 3 = 1 := by kernel_rfl
      have k23 : Try.prog.cellsOf 23 = 2 := by kernel_rfl
      have k24 : Try.prog.cellsOf 24 = 1 := by kernel_rfl
      have k4 : Try.prog.cellsOf 4 = 1 := by kernel_rfl
      simp [Value.cells, k9, k3, k23, k24, k4] at h0
      simp [Value.cells, k9, k3, k23, k24, k4] at h1
      simp [Value.cells, k9, k3, k23, k24, k4] at h2
      simp [Value.cells, k9, k3, k23, k24, k4] at h3
      simp [Value.cells, k9, k3, k23, k24, k4] at h4
      simp [Value.cells, k9, k3, k23, k24, k4] at h5
      obtain ⟨s, hs, -, hm⟩ := DataW.trod_string Try.underlying9 h0
      obtain ⟨sh, hsh, -, -⟩ := DataW.trod_int Try.underlying3 h1
      obtain ⟨p, q, rfl, rfl⟩ := vec_in h2
      obtain ⟨a1, n1, c1, ss, rfl, e1, i1, -, -⟩ := strs_in h3
      obtain ⟨a2, n2, c2, ts, rfl, e2, i2, -, -⟩ := strs_in h4
      obtain ⟨b, hb, -⟩ := DataW.trod_bool Try.underlying4 h5
      obtain rfl : v0 = .string s := by simpa using hs
      obtain rfl : v1 = .int .i64 sh := by simpa using hsh
      obtain rfl : v6 = .bool b := by simpa using hb
      exact ⟨s, sh, p, q, a1, n1, c1, ss, a2, n2, c2, ts, b, rfl, hm, e1, i1, e2, i2⟩

end
end Go.Proofs.Ytgcicillmljglaa
