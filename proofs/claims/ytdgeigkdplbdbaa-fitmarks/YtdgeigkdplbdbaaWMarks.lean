/- The walk of FitMarks. -/
import Derived.Test.YtdgeigkdplbdbaaK
import Derived.Test.YtdgeigkdplbdbaaLN
namespace Go.Proofs.Ytdgeigkdplbdbaa
open Go.RowKit Go.Maps

/-- The block of a pod that is a variable. -/
def PBx (w : World) (B : Nat) (s : ByteArray) (sh cpu mem : Int) (u v : Value) (al : Bool) : Prop := w.heap[B]? = some (.cells #[.string s, .int .i64 sh, .int .i64 cpu, .int .i64 mem, u, v, .bool al] 28 (0, 0))
section
variable {w w' : World} {B : Nat} {s : ByteArray} {sh cpu mem : Int} {u v : Value} {al : Bool}
theorem PBx.new (w : World) (s : ByteArray) (sh cpu mem : Int) (u v : Value) (al : Bool) : PBx (w.alloc (.cells #[.string s, .int .i64 sh, .int .i64 cpu, .int .i64 mem, u, v, .bool al] 28)) w.heap.size s sh cpu mem u v al := heap_alloc_new w _
theorem PBx.later (h : PBx w B s sh cpu mem u v al) (hb : Below w.heap.size w w') : PBx w' B s sh cpu mem u v al := by
  have := (Array.getElem?_eq_some_iff.1 h).1
  unfold PBx at *
  rw [hb.block B this, h]
theorem PBx.cells (h : PBx w B s sh cpu mem u v al) :
    w.cell? ⟨B, 0, none⟩ = some (.string s) ∧ w.cell? ⟨B, 1, none⟩ = some (.int .i64 sh) ∧ w.cell? ⟨B, 2, none⟩ = some (.int .i64 cpu) ∧ w.cell? ⟨B, 3, none⟩ = some (.int .i64 mem) ∧ w.cell? ⟨B, 4, none⟩ = some u ∧ w.cell? ⟨B, 5, none⟩ = some v ∧ w.cell? ⟨B, 6, none⟩ = some (.bool al) := by
  unfold PBx at h
  simp [World.cell?, h]
end

theorem good_of {n : Int} {ss : List ByteArray} (h : marksTo n 4 = ss) (i : Nat) : (ss.getD i ByteArray.empty).size ≤ maxLen := by
  subst h
  rcases Nat.lt_or_ge i (marksTo n 4).length with hi | hi
  · have := four_short _ (marks_four n 4 (Nat.le_refl _) _ (List.getElem_mem hi))
    simp only [List.getD, List.getElem?_eq_getElem hi, Option.getD_some]
    unfold maxLen; omega
  · simp only [List.getD, List.getElem?_eq_none hi, Option.getD_none]
    exact Nat.zero_le _

set_option maxRecDepth 100000 in
set_option maxHeartbeats 4000000 in
theorem fitMarks_walk (a b c d : Int) (w : World) :
    Calls Try.prog 7 #[.int .i64 a, .int .i64 b, .int .i64 c, .int .i64 d] w fun e w' => e = .returned (.bool true) ∧ Below w.heap.size w w' := by
  obtain ⟨ps, hps⟩ : ∃ ps, marksTo a 4 = ps := ⟨_, rfl⟩
  obtain ⟨bs, hbs⟩ : ∃ ps, marksTo b 4 = ps := ⟨_, rfl⟩
  obtain ⟨ms, hms⟩ : ∃ ps, marksTo c 4 = ps := ⟨_, rfl⟩
  obtain ⟨ts, hts⟩ : ∃ ps, marksTo d 4 = ps := ⟨_, rfl⟩
  have zp := good_of hps
  have zb := good_of hbs
  have zm := good_of hms
  have zt := good_of hts
  have ka := fun W => lSet_any a W
  have kb := fun W => lSet_any b W
  have kc := fun W => lSet_any c W
  have kd := fun W => lSet_any d W
  rw [hps] at ka
  rw [hbs] at kb
  rw [hms] at kc
  rw [hts] at kd
  clear hps hbs hms hts
  obtain ⟨n1, e1⟩ : ∃ n, ps.length = n := ⟨_, rfl⟩
  obtain ⟨n2, e2⟩ : ∃ n, bs.length = n := ⟨_, rfl⟩
  obtain ⟨n3, e3⟩ : ∃ n, ms.length = n := ⟨_, rfl⟩
  obtain ⟨n4, e4⟩ : ∃ n, ts.length = n := ⟨_, rfl⟩
  simp only [e1] at ka
  simp only [e2] at kb
  simp only [e3] at kc
  simp only [e4] at kd
  obtain ⟨p1, hp1⟩ : ∃ p, allB ps ms = p := ⟨_, rfl⟩
  obtain ⟨p2, hp2⟩ : ∃ p, allB ts bs = p := ⟨_, rfl⟩
  cases p1 <;> cases p2
  all_goals
    go_enter Try.func7, Try.ntmps7
    go_wp2_with (first
      | (go_at_call 9; refine (known_on _ _ (Below.refl _ _)).mono ?_; rintro e w1 ⟨rfl, hb1⟩)
      | (go_at_call_of 17 (Value.int .i64 a); refine (ka _).mono ?_; rintro e w2 ⟨x1, y1, rfl, s1, hb2⟩
         have hW2 := hb1.trans (hb2.mono hb1.size))
      | (go_at_call_of 17 (Value.int .i64 b); refine (kb _).mono ?_; rintro e w3 ⟨x2, y2, rfl, s2, hb3⟩
         have hW3 := hW2.trans (hb3.mono hW2.size)
         have s1 := s1.1.later hb3)
      | (go_at_call_of 17 (Value.int .i64 c); refine (kc _).mono ?_; rintro e w4 ⟨x3, y3, rfl, s3, hb4⟩
         have P4 := (PBx.new w3 ⟨#[112]⟩ 0 0 0 (.slice x1 n1 y1) (.slice x2 n2 y2) false).later hb4
         have hW4 := (up hW3 _).trans (hb4.mono (up hW3 _).size)
         have s1 := (s1.later (up (Below.refl _ _) _)).later hb4
         have s2 := (s2.1.later (up (Below.refl _ _) _)).later hb4)
      | (go_at_call_of 17 (Value.int .i64 d); refine (kd _).mono ?_; rintro e w5 ⟨x4, y4, rfl, s4, hb5⟩
         have P5 := P4.later hb5
         have hz5 := (Array.getElem?_eq_some_iff.1 P5).1
         obtain ⟨q0, q1, q2, q3, q4, q5, q6⟩ := P5.cells
         have hW5 := up (hW4.trans (hb5.mono hW4.size)) (.cells #[.string ⟨#[110]⟩, .int .i64 0, .int .i64 0, .slice x3 n3 y3, .slice x4 n4 y4, .bool false] 31)
         have hu5 : Below w5.heap.size w5 (w5.alloc (.cells #[.string ⟨#[110]⟩, .int .i64 0, .int .i64 0, .slice x3 n3 y3, .slice x4 n4 y4, .bool false] 31)) := up (Below.refl _ _) _
         have s1 := (s1.later hb5).later hu5
         have s2 := (s2.later hb5).later hu5
         have s3 := (s3.1.later hb5).later hu5
         have s4 := s4.1.later hu5
         have hk1 := rAll_any x1 y1 ps x3 y3 ms _ s1 s3
         have hk2 := rAll_any x4 y4 ts x2 y2 bs _ s4 s2
         have hk3 := why_any ⟨#[112]⟩ 0 0 0 x1 n1 y1 x2 n2 y2 false ⟨#[110]⟩ 0 0 x3 n3 y3 x4 n4 y4 false 0 0 none 0 0 ps bs ms ts [] _ _ _ _ e1 e2 e3 e4 rfl s1 s2 s3 s4 (places_nil _) zp zb zm zt (by decide) (by decide) hp1 hp2 rfl
         rw [hp1, e1, e3] at hk1
         rw [hp2, e4, e2] at hk2)
      | (go_at_call_of 18 (Value.slice x1 n1 y1); refine hk1.mono ?_; rintro e w6 ⟨rfl, rfl⟩)
      | (go_at_call_of 18 (Value.slice x4 n4 y4); refine hk2.mono ?_; rintro e w6 ⟨rfl, rfl⟩)
      | (go_at_call 14; refine hk3.mono ?_; rintro e w7 ⟨rfl, hb7⟩))
    go_ret
    exact ⟨rfl, hW5.trans (hb7.mono hW5.size)⟩

end Go.Proofs.Ytdgeigkdplbdbaa
