/-
  Layer 7's List: maps.Values over the table's map, slices.AppendSeq, Collect, SortFunc, SortedFunc.
-/
import Derived.Test.YtkpfdaomhkcokaaFdB
import Derived.Test.YtkpfdaomhkcokaaFdSh
import Derived.RangeFuncNested
import Derived.RangeFuncBox
import Derived.RangeFuncLeaves
import Derived.Sort.MapsRangeIn
import Derived.Maps.AppendAt
import Derived.Shelf.Abstract
import Derived.Shelf.AbstractIn
import Derived.OwnWalkIn
import Derived.TacticsInMore
import Derived.RegionIn
import Derived.LoopNIn
import Derived.LoopIn
namespace Go.Proofs.Ytkpfdaomhkcokaa
set_option linter.unusedVariables false
set_option linter.unusedSimpArgs false
open Go.RowKit Go.Maps Go.Shelf Dm
attribute [local go_sem] Oper.semAt_some

theorem sorted_nodup {l : List En} (h : Sorted l) : l.Nodup := by
  refine List.Pairwise.imp ?_ h
  intro a b hab e
  exact lt_ne hab (by rw [e])
theorem same_key {l : List En} (hs : Sorted l) {x y : En} (hx : x ∈ l) (hy : y ∈ l) (h : x.key = y.key) : x = y := by
  have a := mem_find hs hx
  have b := mem_find hs hy
  rw [h, b] at a
  exact (Option.some.inj a).symm

/-- What has come of the entries, what is still to come. -/
structure Come (L ps : List En) (left : Lit → Bool) : Prop where
  sub : ∀ x ∈ ps, x ∈ L
  nodup : ps.Nodup
  gone : ∀ x ∈ ps, left (klit x.key) = false
  rest : ∀ x ∈ L, left (klit x.key) = true ∨ x ∈ ps
theorem come_start {D : DataW Unit} {L : List En} (hA : Agree D L) (hs : Sorted L) (hk : AllOk L) : Come L [] (Maps.has D) :=
  ⟨fun x h => (by simp at h), List.nodup_nil, fun x h => (by simp at h), fun x hx => .inl (by rw [hA.has _ (hk x hx), mem_find hs hx]; rfl)⟩
theorem come_step {L ps : List En} {left : Lit → Bool} (hs : Sorted L) (hk : AllOk L) (h : Come L ps left) {x : En} (hx : x ∈ L) (hl : left (klit x.key) = true) : Come L (ps ++ [x]) (fun z => left z && !z.sameKey (klit x.key)) := by
  have hxp : x ∉ ps := fun hp => by have := h.gone x hp; rw [hl] at this; cases this
  refine ⟨fun y hy => ?_, ?_, fun y hy => ?_, fun y hy => ?_⟩
  · rcases List.mem_append.1 hy with hy | hy
    · exact h.sub y hy
    · simp at hy; subst hy; exact hx
  · refine List.nodup_append.2 ⟨h.nodup, by simp, fun a ha b hb e => ?_⟩
    simp at hb
    subst hb e
    exact hxp ha
  · rcases List.mem_append.1 hy with hy | hy
    · show (left _ && _) = false
      rw [h.gone y hy]; rfl
    · simp at hy; subst hy
      show (left _ && !Lit.sameKey _ _) = false
      rw [WideAt.sameKey_self (klit_key _)]; simp
  · by_cases e : y = x
    · subst e; exact .inr (by simp)
    · rcases h.rest y hy with hl' | hp
      · left
        show (left _ && !Lit.sameKey _ _) = true
        rw [hl', sameKey_ne (fun e' => e (same_key hs hy hx (klit_inj (hk y hy) (hk x hx) e')))]; rfl
      · exact .inr (List.mem_append_left _ hp)
theorem come_end {L ps : List En} {left : Lit → Bool} (hs : Sorted L) (h : Come L ps left) (h0 : ∀ kl, left kl = false) : ps.Perm L := by
  refine (List.perm_ext_iff_of_nodup h.nodup (sorted_nodup hs)).2 fun x => ⟨h.sub x, fun hx => ?_⟩
  rcases h.rest x hx with hl | hp
  · rw [h0] at hl; cases hl
  · exact hp
theorem came {D : DataW Unit} {L : List En} (hA : Agree D L) (hs : Sorted L) (hk : AllOk L) {kl : Lit} {x : En} (h : ∀ zd, D.atKey kl zd = dat x) : x ∈ L ∧ kl = klit x.key := by
  obtain ⟨y, hy, rfl⟩ := hA.all kl (has_true_of_atKey h)
  have := hA.at_ y.key (dat zeroE) (hk y hy)
  rw [mem_find hs hy, h] at this
  rw [dat_inj this]
  exact ⟨hy, rfl⟩

set_option maxRecDepth 100000 in
set_option maxHeartbeats 1000000 in
theorem values1_in (F : Fence) (n : Nat) (h8 : F.fn 46) (hro : F.round = none) (hn : 1 ≤ n) (l Bm b : Nat) (L : List En) (D : DataW Unit) (nn : Nat)
    (hA : Agree D L) (hs : Sorted L) (hk : AllOk L) (J Jx : List En → World → Prop)
    (hY : ∀ pre x W, J pre W → pre.length < L.length → YieldAt F (n - 1) Try.prog l #[ev x] W fun e W' =>
      (e = .returned (.bool true) ∧ J (pre ++ [x]) W' ∧ KeepsWalks W W') ∨ (e = .returned (.bool false) ∧ Jx (pre ++ [x]) W'))
    (W : World) (hJ : AbidesFrom W.heap.size J) (hm : W.cell? ⟨Bm, 0, none⟩ = some (.map (some b))) (hown : W.ownsMap Try.prog 71 rdE b nn D) (h0 : J [] W) :
    CallsIn F n Try.prog 46 #[.func (.yield l) #[] #[], .pointer (some ⟨Bm, 0, none⟩)] W fun e W' => (∃ v, e = .returned v) ∧
      ((∃ xs : List En, xs.Perm L ∧ J xs W') ∨ (∃ pre : List En, True ∧ Jx pre W')) := by
  refine callsIn_of_wp Try.func46 rfl h8 ?_ hro
  simp only [Try.ntmps46, List.size_toArray, List.length_cons, List.length_nil, Nat.reduceAdd, Nat.reduceSub, Array.replicate_succ, Array.replicate_zero, List.push_toArray, List.append_toArray, List.nil_append, List.cons_append]
  gi_wp2_with (first
    | (gi_at_range; refine wpListIn_range_own _ rfl _ 53 rfl 71 41 keyLaw Try.underlying53 _ b nn _ rfl hown ?_; intro w0 hrg0 hg0 hs0)
    | gi_in)
  go_frame
  gi_loopw [4] (fun _ wr => ∃ (left : Lit → Bool) (cnt : Nat) (ps : List En), wr.ranges Try.prog 71 rdE b W.heap.size nn D left cnt ∧ ps.length + cnt ≤ L.length ∧ Come L ps left ∧ J ps wr ∧ W.heap.size ≤ wr.heap.size)
    (fun _ wr => wr.rangeLeft b W.heap.size)
  case atStart =>
    exact ⟨_, _, [], hrg0, by rw [hA.size]; simp, come_start hA hs hk, hJ [] W w0 none h0 hg0 (fun r e => by cases e), hg0.size⟩
  case round =>
    obtain ⟨left, cnt, ps, hrg, hcs, hC, hJs, hsz⟩ := hrel
    gi_wp2_with (first
      | (gi_at_next; refine wpListIn_next_ranges _ rfl _ rfl 71 keyLaw rdE id ev (fun key kl hk => ⟨key, rfl⟩) (fun v y hv => by obtain ⟨c, rfl, _⟩ := rdE_inv hv; exact ⟨c, rfl⟩) b W.heap.size nn _ _ _ rfl hrg ?_ ?_)
      | gi_in)
    · intro hc0 hl0
      gi_wp2
      go_end0
      exact ⟨⟨_, rfl⟩, .inl ⟨ps, come_end hs hC hl0, hJs⟩⟩
    · intro key c kl yd yp w2 cnt2 hkey hlk hv hat hrg2 hlt hg2 hs2 hen
      obtain ⟨x, ex, ey⟩ := rdE_inv hv
      have exc : c = x := by
        have : rdE (ev c) = some (dat c, []) := rfl
        rw [hv] at this
        have h1 := (Prod.mk.inj (Option.some.inj this)).1
        exact (dat_inj (h1.symm.trans (Prod.mk.inj ey).1))
      subst exc
      have hyd : yd = dat c := (Prod.mk.inj ey).1
      rw [hyd] at hat
      obtain ⟨hcl, hkl⟩ := came hA hs hk hat
      have hJ2 : J ps w2 := hJ ps wr w2 (some W.heap.size) hJs hg2 (fun r e => by cases e; exact ⟨Nat.le_refl _, hrg.iter_walk⟩)
      have hC2 := come_step hs hk hC hcl (hkl ▸ hlk)
      rw [← hkl] at hC2
      clear hs2 ex ey hv hat hyd hkl
      obtain ⟨v, m, p, h, f⟩ := c
      have hJ3 : J ps (w2.alloc (.cells #[.int .i64 v, .string m, .int .i64 p, .int .i64 h, .bool f] 41)) := hJ ps w2 _ none hJ2 (World.grownBy_alloc _ _ _) (fun r e => by cases e)
      obtain ⟨fn, tmps, assign, body, hy, hR⟩ := hY ps ⟨v, m, p, h, f⟩ _ hJ3 (by omega)
      gi_wp2
      refine hR.mono ?_
      have hrgA : (w2.alloc (.cells #[.int .i64 v, .string m, .int .i64 p, .int .i64 h, .bool f] 41)).ranges Try.prog 71 rdE b W.heap.size nn D (fun z => left z && !z.sameKey kl) cnt2 := hrg2.alloc _
      rintro e W3 (⟨rfl, hJ3, hk3⟩ | ⟨rfl, hJx3⟩)
      · gi_wp2
        have hrg3 := hrgA.of_walks hk3
        go_roundw
        case rel => exact ⟨_, cnt2, ps ++ [⟨v, m, p, h, f⟩], hrg3, by simp; omega, hC2, hJ3, Nat.le_trans hsz (Nat.le_trans hg2.size (Nat.le_trans (by simp) hk3.size))⟩
        case measure => rw [hrg3.left_eq, hrg.left_eq]; exact hlt
      · gi_wp2
        refine bodyPost_ret (results_none rfl _ _ _) rfl ?_
        exact ⟨⟨_, rfl⟩, .inr ⟨ps ++ [⟨v, m, p, h, f⟩], trivial, hJx3⟩⟩

set_option maxHeartbeats 1000000 in
theorem values_in (F : Fence) (n : Nat) (hf : F.fn 26) (hro : F.round = none) (mb : Option Nat) (w : World) :
    CallsIn F n Try.prog 26 #[.map mb] w fun e w' => e = .returned (.func (.func 46) #[] #[.pointer (some ⟨w.heap.size, 0, none⟩)]) ∧ w' = w.alloc (.cells #[.map mb] 53) := by
  refine callsIn_of_wp Try.func26 rfl hf ?_ hro
  simp only [Try.ntmps26, List.size_toArray, List.length_cons, List.length_nil, Nat.reduceAdd, Nat.reduceSub, Array.replicate_succ, Array.replicate_zero, List.push_toArray, List.append_toArray, List.nil_append, List.cons_append]
  gi_wp2
  go_ret
  exact ⟨rfl, rfl⟩

/-- The iterator over a map that reads as these entries. -/
theorem values_stops (F : Fence) (n : Nat) (h8 : F.fn 46) (hro : F.round = none) (hn : 1 ≤ n) (Bm b : Nat) (L : List En) (w : World) (hBm : Bm < w.heap.size)
    (hm : w.cell? ⟨Bm, 0, none⟩ = some (.map (some b))) (hmp : IsMp w b L) :
    SeqStopsK F n Try.prog 46 #[.pointer (some ⟨Bm, 0, none⟩)] (fun x : En => #[ev x]) KeepsWalks (fun xs => xs.Perm L) (fun _ => True) L.length w := fun l J Jx W hW hJ hJx hY h0 => by
  obtain ⟨D, hown, hA⟩ := hmp.own
  have hown' : W.ownsMap Try.prog 71 rdE b L.length D := by
    have hbl := hown.lt
    obtain ⟨es, clock, hb, Ft, hs, hD⟩ := hown
    exact ⟨es, clock, (hW.block b hbl).trans hb, Ft, hs, hD⟩
  exact values1_in F n h8 hro hn l Bm b L D L.length hA hmp.sorted hmp.keys J Jx hY W hJ ((hW.cell (p := ⟨Bm, 0, none⟩) hBm).trans hm) hown' h0

/-! ### slices.AppendSeq -/
theorem infoE : (Try.prog.info? 41).map (fun i => (i.zero, i.size, i.bytes)) = some (some (ev zeroE), 5, 48) := by kernel_rfl
def cellsOf (x : En) : List Value := [.int .i64 x.vlan, .string x.mac, .int .i64 x.port, .int .i64 x.heard, .bool x.fixed]
def cellsE (l : List En) : List Value := l.flatMap cellsOf
theorem cellsE_length (l : List En) : (cellsE l).length = l.length * 5 := by
  induction l with
  | nil => rfl
  | cons x l ih =>
    have : cellsE (x :: l) = cellsOf x ++ cellsE l := rfl
    rw [this, List.length_append, ih]
    simp [cellsOf]; omega
theorem cellsE_snoc (l : List En) (x : En) : cellsE (l ++ [x]) = cellsE l ++ cellsOf x := by simp [cellsE]

theorem cell_five_new (w : World) (v : Int) (m : ByteArray) (p h : Int) (f : Bool) : ∀ j u, (cellsOf ⟨v, m, p, h, f⟩)[j]? = some u → (w.alloc (.cells #[.int .i64 v, .string m, .int .i64 p, .int .i64 h, .bool f] 41)).cell? ((⟨w.heap.size, 0, none⟩ : Addr).add j) = some u := by
  intro j u hj
  obtain ⟨c0, c1, c2, c3, c4⟩ := (eblk_new w v m p h f).cells
  match j, hj with
  | 0, hj => simp [cellsOf] at hj; subst hj; exact c0
  | 1, hj => simp [cellsOf] at hj; subst hj; exact c1
  | 2, hj => simp [cellsOf] at hj; subst hj; exact c2
  | 3, hj => simp [cellsOf] at hj; subst hj; exact c3
  | 4, hj => simp [cellsOf] at hj; subst hj; exact c4

set_option maxRecDepth 100000 in
set_option maxHeartbeats 4000000 in
theorem appendSeq_in (F : Fence) (n : Nat) (h58 : F.fn 58) (h46 : F.fn 46) (hro : F.round = none) (hn : 3 ≤ n) (Bm b : Nat) (L : List En) (w : World) (hBm : Bm < w.heap.size)
    (hm : w.cell? ⟨Bm, 0, none⟩ = some (.map (some b))) (hmp : IsMp w b L) :
    CallsIn F n Try.prog 58 #[.slice none 0 0, .func (.func 46) #[] #[.pointer (some ⟨Bm, 0, none⟩)]] w fun e W' =>
      ∃ v xs, e = .returned v ∧ xs.Perm L ∧ W'.ownsRow w.heap.size 41 5 v xs.length (cellsE xs) ∧ Below w.heap.size w W' := by
  have h1 : 1 ≤ n := by omega
  have hfew := hmp.few
  obtain ⟨i0, hi, hz0, hz1, hz2⟩ := info_parts infoE
  refine callsIn_of_wp_marks Try.func58 rfl h58 ?_ hro
  simp only [Try.ntmps58, List.size_toArray, List.length_cons, List.length_nil, Nat.reduceAdd, Nat.reduceSub, Array.replicate_succ, Array.replicate_zero, List.push_toArray, List.append_toArray, List.nil_append, List.cons_append]
  gi_wp2
  have bO := Boxed.new w 36 (.slice none 0 0)
  have hB0 : Below w.heap.size w (w.alloc (.cells #[.slice none 0 0] 36)) := below_box w _
  have hsz : (w.alloc (.cells #[.slice none 0 0] 36)).heap.size = w.heap.size + 1 := by simp
  have hmp0 : IsMp (w.alloc (.cells #[.slice none 0 0] 36)) b L := hmp.kept (World.grownBy_alloc _ _ none) (by simp)
  have hm0 := (hB0.cell (p := ⟨Bm, 0, none⟩) hBm).trans hm
  obtain ⟨W0, hW0⟩ : ∃ W0, w.alloc (.cells #[.slice none 0 0] 36) = W0 := ⟨_, rfl⟩
  rw [hW0] at bO hB0 hmp0 hsz hm0 ⊢
  clear hW0
  refine wpIn_rangeFunc_ownH hro h1 (gf := 46) (lb := #[.pointer (some ⟨Bm, 0, none⟩)]) rfl h46 (enters_of Try.func46 (by kernel_rfl) rfl)
    (values_stops F (n - 1) h46 hro (by omega) Bm b L W0 (by omega) hm0 hmp0) walksK_t (walksK_b) (Below.refl _ _) (fun _ => rfl)
    (fun pre W => (∃ v, Boxed W w.heap.size 36 v ∧ W.ownsRow w.heap.size 41 5 v pre.length (cellsE pre) ∧ True) ∧ Below w.heap.size w W)
    (fun _ _ _ => False)
    (OwnFrom.and (Own.from (holdsRow_own w.heap.size w.heap.size 36 41 5 (fun pre => pre.length) cellsE (fun pre v => True)) _) (ownFrom_below (Nat.le_refl _) (by omega)))
    (fun _ _ _ _ _ hs _ _ => hs)
    ⟨⟨_, bO, World.ownsRow_nil _ _ _ _, trivial⟩, hB0⟩
    (fun x a' W => ∃ Bx, w.heap.size < Bx ∧ EBlk W Bx x ∧ a' = { tmps := #[.slice none 0 0, .func (.func 46) #[] #[.pointer (some ⟨Bm, 0, none⟩)], .pointer (some ⟨w.heap.size, 0, none⟩), undef, .slice none 0 0, .pointer (some ⟨Bx, 0, none⟩), .func (.func 46) #[] #[.pointer (some ⟨Bm, 0, none⟩)], ev x, undef, undef, undef, undef, undef], defers := [] })
    ?hAx
    ?assign ?body ?done ?stop
  case hAx =>
    intro x a' _ X Y row hs hg hr
    obtain ⟨Bx, h1, h2, h3⟩ := hs
    refine ⟨Bx, h1, ?_, h3⟩
    refine (hg.block Bx h2.lt ?_).trans h2
    intro e
    obtain ⟨o, ho, hc⟩ := (hr Bx e.symm).2
    rw [show X.heap[Bx]? = _ from h2] at ho
    cases ho; cases hc
  case assign =>
    rintro l pre x W K ⟨⟨v, hv, hrow, hnil⟩, hB⟩ hK
    obtain ⟨xv, m, p, h, f⟩ := x
    gi_wp2
    refine hK _ _ ((KeepsOthers.alloc _ _).from _) ?_ ⟨⟨v, hv.alloc _, hrow.alloc _, trivial⟩, hB.alloc hB.size _⟩ ⟨W.heap.size, hv.lt, eblk_new W xv m p h f, rfl⟩
    exact (KeepsOthers.alloc _ _).walks
  case body =>
    rintro l pre x a' W hl ⟨r, hr⟩ ⟨⟨v, hv, hrow, hnil⟩, hB⟩ ⟨Bx, hBx, bX, rfl⟩ hlt
    obtain ⟨xv, m, p, h, f⟩ := x
    have hc := hv.cell
    obtain ⟨k0, k1, k2, k3, k4⟩ := bX.cells
    have hBsz := hB.size
    have F5 := cell_five_new W xv m p h f
    gi_wp2_with (gi_at_builtin; refine wpListIn_append_own _ rfl _ _ 36 rfl w.heap.size 41 i0 (ev zeroE) 5 48 Try.underlying36 hi hz0 hz1 hz2 rfl (by decide) _ _ _ rfl (hrow.alloc _) ⟨W.heap.size, 0, none⟩ 1 1 (cellsOf ⟨xv, m, p, h, f⟩) rfl rfl F5 (by simp [cellsOf, Value.oneCell']) (by unfold maxLen; omega) (by omega) (by simp; omega) ?_; intro v' w1 hown' hgrow _; obtain ⟨g', cap', rfl⟩ := ownsRow_succ hown'; obtain ⟨hv1, hv2, hr2, hk2, hb2⟩ := hv.appended (by decide) hrow hB.size (Nat.le_refl _) hown' hgrow; have hc1 := hv1.cell; have hf1 := hv1.frozen)
    exact ⟨hk2.from _, hk2.walks, ⟨_, hv2, by rw [cellsE_snoc]; simpa using hr2, trivial⟩, hB.trans hb2⟩
  case done =>
    rintro D ys W hD hperm ⟨⟨v, hv, hrow, hnil⟩, hB⟩ hK
    have hc := hv.cell
    gi_wp2
    refine ⟨by simp, .inl ⟨_, _, rfl, run_takeDeferred hK, ?_⟩⟩
    exact ⟨_, results_tmp rfl _ _ _, v, ys, rfl, hperm, ownsRow_putObj hrow _ hK rfl, hB.trans (belowK_b (w := w) (Nat.le_refl _) W D _ _ (by omega) hK rfl rfl)⟩
  case stop =>
    rintro D c pre W _ _ h _
    exact h.elim

set_option maxRecDepth 100000 in
set_option maxHeartbeats 1000000 in
theorem collect_in (F : Fence) (n : Nat) (h44 : F.fn 44) (h58 : F.fn 58) (h46 : F.fn 46) (hro : F.round = none) (hn : 4 ≤ n) (Bm b : Nat) (L : List En) (w : World) (hBm : Bm < w.heap.size)
    (hm : w.cell? ⟨Bm, 0, none⟩ = some (.map (some b))) (hmp : IsMp w b L) :
    CallsIn F n Try.prog 44 #[.func (.func 46) #[] #[.pointer (some ⟨Bm, 0, none⟩)]] w fun e W' =>
      ∃ v xs, e = .returned v ∧ xs.Perm L ∧ W'.ownsRow w.heap.size 41 5 v xs.length (cellsE xs) ∧ Below w.heap.size w W' := by
  have h1 : 1 ≤ n := by omega
  refine callsIn_of_wp Try.func44 rfl h44 ?_ hro
  simp only [Try.ntmps44, List.size_toArray, List.length_cons, List.length_nil, Nat.reduceAdd, Nat.reduceSub, Array.replicate_succ, Array.replicate_zero, List.push_toArray, List.append_toArray, List.nil_append, List.cons_append]
  gi_wp2_with (gi_at_call 58; refine (appendSeq_in F (n - 1) h58 h46 hro (by omega) Bm b L w hBm hm hmp).mono ?_; rintro e w' ⟨v, xs, rfl, hp, ho, hb⟩)
  go_ret
  exact ⟨v, xs, rfl, hp, ho, hb⟩
end Go.Proofs.Ytkpfdaomhkcokaa
