/-
  Layer 8: what is known of a port, as a value, a block and a row; own, sameAddress, rightPort, the closure of Right, Mine, the document's Raise.
-/
import Derived.Test.YtojfmnndfophhaaGreatRoA
import Derived.Test.YtojfmnndfophhaaGreatRoMath2
namespace Go.Proofs.YtojfmnndfophhaaGreat
set_option linter.unusedVariables false
set_option linter.unusedSimpArgs false
open Go.RowKit Vm Rm

theorem at_some {α : Type} {l : List α} {k : Nat} (h : k < l.length) : ∃ x, l[k]? = some x := ⟨l[k], List.getElem?_eq_getElem h⟩
theorem below_drewN {B : Nat} {a w : World} (h : Below B a w) (n : Nat) : Below B a (w.drewN n) := ⟨h.os, h.tape, h.output, h.size, h.block⟩
abbrev iv (i c s r k b p : Int) : Value := .agg #[.int .u64 i, .int .u64 c, .int .i64 s, .int .u64 r, .int .u64 k, .int .u64 b, .int .u64 p]
abbrev Rm.Inf.val (x : Inf) : Value := iv x.id x.cost x.source x.vec.root x.vec.cost x.vec.bridge x.vec.port
/-- The seven cells of what is known of a port. -/
def At7 (w : World) (g o : Nat) (i c s r k b p : Int) : Prop :=
  w.cell? ⟨g, o, none⟩ = some (.int .u64 i) ∧ w.cell? ⟨g, o + 1, none⟩ = some (.int .u64 c) ∧ w.cell? ⟨g, o + 2, none⟩ = some (.int .i64 s) ∧ w.cell? ⟨g, o + 3, none⟩ = some (.int .u64 r) ∧ w.cell? ⟨g, o + 4, none⟩ = some (.int .u64 k) ∧ w.cell? ⟨g, o + 5, none⟩ = some (.int .u64 b) ∧ w.cell? ⟨g, o + 6, none⟩ = some (.int .u64 p)
def AtI (w : World) (g o : Nat) (x : Inf) : Prop := At7 w g o x.id x.cost x.source x.vec.root x.vec.cost x.vec.bridge x.vec.port
theorem At7.below {w w' : World} {g o B : Nat} {i c s r k b p : Int} (h : At7 w g o i c s r k b p) (hb : Below B w w') (hB : g < B) : At7 w' g o i c s r k b p := by
  obtain ⟨k0, k1, k2, k3, k4, k5, k6⟩ := h
  exact ⟨(hb.cell (p := ⟨g, o, none⟩) hB).trans k0, (hb.cell (p := ⟨g, o + 1, none⟩) hB).trans k1, (hb.cell (p := ⟨g, o + 2, none⟩) hB).trans k2, (hb.cell (p := ⟨g, o + 3, none⟩) hB).trans k3, (hb.cell (p := ⟨g, o + 4, none⟩) hB).trans k4, (hb.cell (p := ⟨g, o + 5, none⟩) hB).trans k5, (hb.cell (p := ⟨g, o + 6, none⟩) hB).trans k6⟩
def inI64 (n : Int) : Prop := -9223372036854775808 ≤ n ∧ n ≤ 9223372036854775807
structure InfOk (x : Inf) : Prop where
  id : u64B x.id
  cost : u64B x.cost
  source : inI64 x.source
  vec : x.vec.ok
/-- A row of what is known of ports. -/
structure IRow (w : World) (a : Option Addr) (l : List Inf) : Prop where
  at_ : ∀ j x, l[j]? = some x → ∃ g o : Nat, a = some ⟨g, o, none⟩ ∧ g < w.heap.size ∧ AtI w g (o + j * 7) x
  rng : ∀ x ∈ l, InfOk x
theorem IRow.next {w w' : World} {a : Option Addr} {l : List Inf} (h : IRow w a l) (hb : Below w.heap.size w w') : IRow w' a l :=
  ⟨fun j x hx => by obtain ⟨g, o, e, hg, k⟩ := h.at_ j x hx; exact ⟨g, o, e, Nat.lt_of_lt_of_le hg hb.size, At7.below k hb hg⟩, h.rng⟩
theorem IRow.ok {w : World} {a : Option Addr} {l : List Inf} (h : IRow w a l) {j : Nat} {x : Inf} (hx : l[j]? = some x) : InfOk x := h.rng x (List.mem_of_getElem? hx)
/-- A block that holds what is known of a port. -/
def IBlk (T : TypeId) (w : World) (n : Nat) (i c s r k b p : Int) : Prop :=
  w.heap[n]? = some (.cells #[.int .u64 i, .int .u64 c, .int .i64 s, .int .u64 r, .int .u64 k, .int .u64 b, .int .u64 p] T (0, 0))
theorem IBlk.below {T : TypeId} {w w' : World} {n B : Nat} {i c s r k b p : Int} (h : IBlk T w n i c s r k b p) (hb : Below B w w') (hB : n < B) : IBlk T w' n i c s r k b p := (hb.block n hB).trans h
theorem IBlk.lt {T : TypeId} {w : World} {n : Nat} {i c s r k b p : Int} (h : IBlk T w n i c s r k b p) : n < w.heap.size := (Array.getElem?_eq_some_iff.1 h).1
theorem IBlk.next {T : TypeId} {w w' : World} {n : Nat} {i c s r k b p : Int} (h : IBlk T w n i c s r k b p) (hb : Below w.heap.size w w') : IBlk T w' n i c s r k b p := h.below hb h.lt
theorem iblk_new (T : TypeId) (w : World) (i c s r k b p : Int) : IBlk T (w.alloc (.cells #[.int .u64 i, .int .u64 c, .int .i64 s, .int .u64 r, .int .u64 k, .int .u64 b, .int .u64 p] T)) w.heap.size i c s r k b p := heap_alloc_new w _
theorem IBlk.cells {T : TypeId} {w : World} {n : Nat} {i c s r k b p : Int} (H : IBlk T w n i c s r k b p) :
    w.cell? ⟨n, 0, none⟩ = some (.int .u64 i) ∧ w.cell? ⟨n, 1, none⟩ = some (.int .u64 c) ∧ w.cell? ⟨n, 2, none⟩ = some (.int .i64 s) ∧ w.cell? ⟨n, 3, none⟩ = some (.int .u64 r) ∧ w.cell? ⟨n, 4, none⟩ = some (.int .u64 k) ∧ w.cell? ⟨n, 5, none⟩ = some (.int .u64 b) ∧ w.cell? ⟨n, 6, none⟩ = some (.int .u64 p) := by
  unfold IBlk at H
  refine ⟨?_, ?_, ?_, ?_, ?_, ?_, ?_⟩ <;> simp [World.cell?, H]
/-- A block of four, filled anew. -/
abbrev put4 (w : World) (n : Nat) (r c b p : Int) : World := (((w.setCell ⟨n, 0, none⟩ (.int .u64 r)).setCell ⟨n, 1, none⟩ (.int .u64 c)).setCell ⟨n, 2, none⟩ (.int .u64 b)).setCell ⟨n, 3, none⟩ (.int .u64 p)
theorem blk_set {w : World} {b i : Nat} {cs cs' : Array Value} {T : TypeId} {x : Value} (h : w.heap[b]? = some (.cells cs T (0, 0))) (hc : cs.setIfInBounds i x = cs') : (w.setCell ⟨b, i, none⟩ x).heap[b]? = some (.cells cs' T (0, 0)) := by
  rw [Joins.block_setCell h x, hc]
theorem Blk.set4 {T : TypeId} {w : World} {n : Nat} {x : Vc} (h : Blk T w n x) (r c b p : Int) : Blk T (put4 w n r c b p) n ⟨r, c, b, p⟩ := by
  unfold Blk at h ⊢
  exact blk_set (blk_set (blk_set (blk_set h rfl) rfl) rfl) rfl
theorem below_put4 {B : Nat} {a w : World} (h : Below B a w) {n : Nat} (hn : B ≤ n) (r c b p : Int) : Below B a (put4 w n r c b p) :=
  (((h.setCell (p := ⟨n, 0, none⟩) hn _).setCell (p := ⟨n, 1, none⟩) hn _).setCell (p := ⟨n, 2, none⟩) hn _).setCell (p := ⟨n, 3, none⟩) hn _
theorem run_vcEq (r c b p r' c' b' p' : Int) (w : World) :
    Sem.run Tryz.prog (binOp .eql 32 (vv r c b p) (vv r' c' b' p')) w = .ok (.bool (decide ((⟨r, c, b, p⟩ : Vc) = ⟨r', c', b', p'⟩))) w := by
  unfold vv
  go_simp
  repeat' split
  all_goals simp_all

theorem be_mod {x y : Int} (hx : u64B x) (hy : u64B y) : (Bm.be x.toNat 6 = Bm.be y.toNat 6) ↔ x % 281474976710656 = y % 281474976710656 := by
  obtain ⟨x0, x1⟩ := hx
  obtain ⟨y0, y1⟩ := hy
  constructor
  · intro h
    have a := Bm.num_be x.toNat 6
    have b := Bm.num_be y.toNat 6
    rw [h, b] at a
    omega
  · intro h
    have key : ∀ (k n m : Nat), n % 256 ^ k = m % 256 ^ k → Bm.be n k = Bm.be m k := by
      intro k
      induction k with
      | zero => intro n m _; rfl
      | succ k ih =>
        intro n m e
        have e1 : n % 256 ^ k = m % 256 ^ k := by
          have := congrArg (· % 256 ^ k) e
          simp only [Nat.pow_succ, Nat.mod_mul_right_mod] at this
          exact this
        have e2 : n / 256 ^ k % 256 = m / 256 ^ k % 256 := by
          have h1 := Nat.mod_mul_right_div_self n (256 ^ k) 256
          have h2 := Nat.mod_mul_right_div_self m (256 ^ k) 256
          rw [← h1, ← h2, ← Nat.pow_succ, e]
        simp only [Bm.be]
        rw [ih n m e1, e2]
    exact key 6 _ _ (by omega)

set_option maxHeartbeats 400000 in
theorem same_w (a b : Int) (R : Bool) (w : World) (ha : u64B a) (hb : u64B b) (hR : Hid (decide (a % 281474976710656 = b % 281474976710656) = R)) :
    Calls Tryz.prog 96 #[.int .u64 a, .int .u64 b] w fun e w' => e = .returned (.bool R) ∧ Below w.heap.size w w' := by
  have e : decide (Bm.be a.toNat 6 = Bm.be b.toNat 6) = R := by
    rw [← hR.out]
    exact decide_eq_decide.2 (be_mod ha hb)
  have CA := Lib.hid (fun w' => split_any a w' ha)
  have CB := Lib.hid (fun w' => split_any b w' hb)
  obtain ⟨s, hs⟩ : ∃ s, Bm.be a.toNat 6 = s := ⟨_, rfl⟩
  obtain ⟨t, ht⟩ : ∃ t, Bm.be b.toNat 6 = t := ⟨_, rfl⟩
  rw [hs] at CA e
  rw [ht] at CB e
  have E := Lib.hid e
  clear e hs ht ha hb hR
  go_enter Tryz.func96, Tryz.ntmps96
  go_wp2_with fail
  (with_reducible refine (CA.out _).mono ?_)
  rintro e w1 ⟨rfl, hb1⟩
  go_wp2_with fail
  (with_reducible refine (CB.out _).mono ?_)
  rintro e w2 ⟨rfl, hb2⟩
  go_wp2
  go_ret
  refine ⟨ret_bool ?_, bw_trans hb1 hb2⟩
  rw [← E.out, Bool.eq_iff_iff, beq_iff_eq, decide_eq_true_iff, ByteArray.toList_eq, ByteArray.toList_eq]
  exact ⟨fun h => ByteArray.ext (Array.toList_inj.1 h), fun h => by rw [h]⟩

set_option maxHeartbeats 400000 in
theorem mine_w (n : Int) (w : World) :
    Calls Tryz.prog 92 #[.int .u64 n] w fun e w' => e = .returned (vv n 0 n 0) ∧ Below w.heap.size w w' := by
  go_enter Tryz.func92, Tryz.ntmps92
  go_wp2
  obtain ⟨k0, k1, k2, k3⟩ := (blk_new 32 w n 0 n 0).cells
  exact bodyPost_ret (v := vv n 0 n 0) (by simp [results, Tryz.results92, go_sem, k0, k1, k2, k3]) rfl ⟨rfl, below_box _ _⟩

set_option maxHeartbeats 1000000 in
theorem port_w (i c s r k b p : Int) (R : Bool) (w : World) (hR : Hid (infB ⟨i, c, s, ⟨r, k, b, p⟩⟩ = R)) (hi : u64B i) (hc : u64B c) (hk : u64B k) :
    Calls Tryz.prog 90 #[iv i c s r k b p] w fun e w' => e = .returned (.bool R) ∧ Below w.heap.size w w' := by
  obtain ⟨hi0, hi1⟩ := hi
  obtain ⟨hc0, hc1⟩ := hc
  obtain ⟨hk0, hk1⟩ := hk
  have hq := run_vcEq r k b p 0 0 0 0
  go_enter Tryz.func90, Tryz.ntmps90
  go_wp2
  all_goals go_ret
  all_goals refine ⟨ret_bool ?_, below_box _ _⟩
  all_goals rw [← hR.out, Bool.eq_iff_iff]
  all_goals (unfold infB zeroV; simp only [beq_iff_eq, beq_eq_false_iff_ne, ne_eq, decide_eq_true_iff, Vc.mk.injEq] at *; try simp; try omega)
  rename_i e3
  clear hq
  subst e3
  exact ⟨fun h => ⟨by omega, by omega, by omega, h, fun h => absurd h (by omega)⟩, fun h => h.2.2.2.1⟩

set_option maxHeartbeats 1000000 in
theorem ident_w (n i c s r k b p i' : Int) (cs : Nat) (w : World) (hc : w.cell? ⟨cs, 0, none⟩ = some (.int .u64 i')) (hl : cs < w.heap.size) :
    Calls Tryz.prog 89 #[iv i c s r k b p, .pointer (some ⟨cs, 0, none⟩)] w fun e w' => e = .returned (.bool (decide (i = i'))) ∧ Below w.heap.size w w' := by
  go_enter Tryz.func89, Tryz.ntmps89
  go_wp2
  go_ret
  refine ⟨ret_bool ?_, below_box _ _⟩
  first | rfl | simp

end Go.Proofs.YtojfmnndfophhaaGreat
