/- The contract of the library's Copy of maps, at the nodes' map. -/
import Derived.Test.YtpgchnppinbpkaaDoorLD
import Derived.Test.YtpgchnppinbpkaaDoorLA
import Derived.Lib.SlMapMerge
import Derived.Maps.Ext
import Derived.Maps.RangeWalk
import Derived.Laws.IdiomRangeMap
namespace Go.Proofs.YtpgchnppinbpkaaDoor
open Go.RowKit Go.Maps

/-- The one laid into the other. -/
def mergeF (E A : List (ByteArray × Rec)) : List (ByteArray × Rec) := A.foldl (fun M p => put sK M p.1 p.2) E
theorem enc_merge : ∀ (A E : List (ByteArray × Rec)), (A.map fun p => (sK p.1, DataW.held (Rec.val p.2))).foldl (fun D p => D.put p.1 p.2) (encD sK Rec.val E) = encD sK Rec.val (mergeF E A)
  | [], E => rfl
  | p :: t, E => by
    rw [List.map_cons, List.foldl_cons, encD_put sK Rec.val sK_same, enc_merge t]
    rfl
theorem mergeD_enc (E A : List (ByteArray × Rec)) : Lib.mergeD (encD sK Rec.val E) (encD sK Rec.val A) = encD sK Rec.val (mergeF E A) := enc_merge A E

theorem mem_enc {A : List (ByteArray × Rec)} {kl : Lit} {c : Value} (h : ∀ zd, (encD sK Rec.val A).atKey kl zd = .held c) : ∃ p ∈ A, c = Rec.val p.2 := by
  have h0 := h .nil
  unfold encD DataW.atKey at h0
  simp only at h0
  cases hf : (A.map fun p => (sK p.1, DataW.held (Rec.val p.2))).find? (fun p => p.1.sameKey kl) with
  | none => rw [hf] at h0; cases h0
  | some x =>
    rw [hf] at h0
    obtain ⟨p, hp, rfl⟩ := List.mem_map.1 (List.mem_of_find?_eq_some hf)
    simp only [DataW.held.injEq] at h0
    exact ⟨p, hp, h0.symm⟩

set_option maxRecDepth 100000 in
set_option maxHeartbeats 4000000 in
theorem copy_any (bd bs : Nat) (E A : List (ByteArray × Rec)) (w : World) (hd : NOwn w bd E) (hs : NOwn w bs A) (hne : bd ≠ bs) (hroom : E.length + A.length ≤ maxLen) :
    Calls Tryd.prog 46 #[.map (some bd), .map (some bs)] w fun e w' => e = .returned (.tuple #[]) ∧ NOwn w' bd (mergeF E A) ∧ w.grownBy w' (some bd) := by
  have hbd := hd.lt
  have hbs := hs.lt
  have hsz : Maps.size (encD sK Rec.val A) = A.length := encD_size _ _ _
  unfold NOwn at hd hs
  go_enter Tryd.func46, Tryd.ntmps46
  go_wp2_with (first
    | (at_range; refine wpList_range_own _ rfl _ 70 rfl 9 79 kS Tryd.underlying70 raw bs _ _ rfl hs ?_; intro w0 hrg0 hg0 hs0)
    | go_in)
  go_frame
  go_loopw [4] (fun _ wr => ∃ (left : Lit → Bool) (cnt : Nat) (Dout : DataW Value), wr.ranges Tryd.prog 9 raw bs w.heap.size A.length (encD sK Rec.val A) left cnt ∧ cnt ≤ A.length ∧
      wr.ownsMap Tryd.prog 9 raw bd (E.length + (A.length - cnt)) Dout ∧ Merged Dout (encD sK Rec.val E) (encD sK Rec.val A) left ∧ w.grownBy wr (some bd) ∧ w.heap.size < wr.heap.size)
    (fun _ wr => wr.rangeLeft bs w.heap.size)
  case atStart =>
    rw [hsz] at hrg0
    exact ⟨_, _, _, hrg0, Nat.le_refl _, (hd.kept hg0 (by simp)).mono (by omega), merged_start _ _, hg0.but _, by omega⟩
  case round =>
    obtain ⟨left, cnt, Dout, hrg, hcs, hout, hM, hgw, hlt0⟩ := hrel
    go_wp2_with (first
      | (at_next; refine wpList_next_ranges _ rfl _ rfl 9 kS raw id id (fun key _ _ => ⟨key, rfl⟩) (fun v _ _ => ⟨v, rfl⟩) bs w.heap.size A.length _ _ _ rfl hrg ?_ ?_)
      | go_in)
    · intro hc0 hl0
      go_wp2
      go_end0
      subst hc0
      have e := merged_eq kS.one hM hl0 (hout.canon kS) (hd.canonK kS) (hs.canonK kS)
      rw [mergeD_enc] at e
      subst e
      exact ⟨rfl, NOwn.of hout, hgw⟩
    · intro x c kl yd yp w1 cnt1 hkey hlx hv hat hrg1 hlt hg1 hs1 hen
      obtain ⟨rfl, rfl⟩ : yd = .held c ∧ yp = [] := by
        have : raw c = some (yd, yp) := hv
        simp only [raw, Option.some.injEq, Prod.mk.injEq] at this
        exact ⟨this.1.symm, this.2.symm⟩
      obtain ⟨pr, hpr, hc⟩ := mem_enc hat
      obtain ⟨s0, r0⟩ := pr
      obtain ⟨nm', cpu', mem', a1', c1', xs', a2', c2', ys', cl', u, m, k'⟩ := r0
      simp only [Rec.val] at hc
      subst hc
      have hout1 := hout.kept hg1 (fun e => by have := Option.some.inj e; omega)
      go_wp2_with (first
        | (at_mapUpdate; refine wpList_mapUpdate_own _ rfl _ _ _ 70 rfl 9 79 kS Tryd.underlying70 raw bd _ _ rfl (hout1.alloc _) (by omega) _ _ _ rfl rfl hkey _ [] rfl ?_; intro w2 hout2 hg2; go_frame)
        | go_in)
      have hg12 := below_grown (up (Below.refl w1.heap.size w1) (.cells #[.string nm', .int .i64 cpu', .int .i64 mem', .slice a1' xs'.length c1', .slice a2' ys'.length c2', .bool cl', .int .i64 u, .int .i64 m, .int .i64 k'] 79)) (some bd)
      have hgA := grown_trans hg12 hg2
      have hrg2 := hrg1.kept hgA (fun e => hne (Option.some.inj e).symm) (fun e => by have := Option.some.inj e; omega)
      have hsA := hgA.size
      go_roundw
      case rel =>
        exact ⟨_, cnt1, _, hrg2, by omega, hout2.mono (by omega), merged_step hM hout.isMap (kS.key hkey) hat, (hgw.andThen hg1 (fun j hj => .inl (by cases hj; exact Nat.le_refl _))).andThen hgA (fun j hj => .inr hj), by omega⟩
      case measure => rw [hrg2.left_eq, hrg.left_eq]; exact hlt

end Go.Proofs.YtpgchnppinbpkaaDoor
