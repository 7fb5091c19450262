/-
  Layer 8: rows of what is known of ports that a call makes; the law's of.
-/
import Derived.Test.YtkakjkdjjapiaaaRoI
namespace Go.Proofs.Ytkakjkdjjapiaaa
set_option linter.unusedVariables false
set_option linter.unusedSimpArgs false
open Go.RowKit Vm Rm

def seven (x : Inf) : List Value := [.int .u64 x.id, .int .u64 x.cost, .int .i64 x.source, .int .u64 x.vec.root, .int .u64 x.vec.cost, .int .u64 x.vec.bridge, .int .u64 x.vec.port]
def cellsP (l : List Inf) : List Value := l.flatMap seven
theorem cellsP_length (l : List Inf) : (cellsP l).length = l.length * 7 := by
  induction l with
  | nil => rfl
  | cons v l ih =>
    have e : cellsP (v :: l) = seven v ++ cellsP l := rfl
    rw [e, List.length_append, ih, List.length_cons]
    simp [seven]
    omega
theorem cellsP_add (l : List Inf) (x : Inf) : cellsP (l ++ [x]) = cellsP l ++ seven x := by simp [cellsP]
theorem cellsP_at {l : List Inf} {j : Nat} {x : Inf} (h : l[j]? = some x) (c : Nat) (hc : c < 7) : (cellsP l)[j * 7 + c]? = (seven x)[c]? := by
  induction l generalizing j with
  | nil => simp at h
  | cons y l ih =>
    have e : cellsP (y :: l) = seven y ++ cellsP l := rfl
    have ly : (seven y).length = 7 := rfl
    rw [e]
    cases j with
    | zero =>
      simp at h
      subst h
      rw [List.getElem?_append_left (by omega)]
      congr 1; omega
    | succ j =>
      rw [List.getElem?_append_right (by omega), ly]
      have := ih (j := j) (by simpa using h)
      rw [← this]
      congr 1; omega
theorem irow_owned {w : World} {base : Nat} {T : TypeId} {v : Value} {l : List Inf} (h : w.ownsRow base T 7 v l.length (cellsP l)) (hr : ∀ x ∈ l, InfOk x) : ∃ (a : Option Addr) (cap : Nat), v = .slice a l.length cap ∧ l.length ≤ cap ∧ IRow w a l := by
  rcases h.2 with ⟨rfl, h0⟩ | ⟨g, cap, cur, rfl, hbg, hg, hnc, hcm, hcs, htake⟩
  · have : l = [] := List.eq_nil_of_length_eq_zero h0
    subst this
    exact ⟨none, 0, rfl, Nat.le_refl _, ⟨fun j x h => by simp at h, hr⟩⟩
  · refine ⟨_, cap, rfl, hnc, ⟨fun j n hj => ⟨g, 0, rfl, (Array.getElem?_eq_some_iff.1 hg).1, ?_⟩, hr⟩⟩
    have hjl := (List.getElem?_eq_some_iff.1 hj).1
    have key : ∀ c, c < 7 → w.cell? ⟨g, 0 + j * 7 + c, none⟩ = (seven n)[c]? := fun c hc => by
      have h1 := h.cellAt (j * 7 + c) (by omega)
      rw [cellsP_at hj c hc] at h1
      rw [Nat.zero_add]; exact h1
    exact ⟨key 0 (by omega), key 1 (by omega), key 2 (by omega), key 3 (by omega), key 4 (by omega), key 5 (by omega), key 6 (by omega)⟩
theorem infoP8 : (Try.prog.info? 47).map (fun i => (i.zero, i.size, i.bytes)) = some (some (iv 0 0 0 0 0 0 0), 7, 56) := by kernel_rfl
theorem infoP : (Try.prog.info? 42).map (fun i => (i.zero, i.size, i.bytes)) = some (some (iv 0 0 0 0 0 0 0), 7, 56) := by kernel_rfl
theorem take_all {l : List Inf} {n : Nat} (h : l.length = n) : l.take n = l := by rw [← h, List.take_length]

/-- Behind k rounds: the first k are copied. -/
def OfInv (l : List Inf) (n base : Nat) (w : World) (o i : Value) (wr : World) : Prop :=
  ∃ k : Nat, k ≤ n ∧ i = .int .i64 (k : Nat) ∧ wr.ownsRow base 47 7 o k (cellsP (l.take k)) ∧ Below w.heap.size w wr ∧ base ≤ wr.heap.size

set_option maxRecDepth 20000 in
set_option maxHeartbeats 1000000 in
theorem of_w (a : Option Addr) (n cap : Nat) (l : List Inf) (w : World) (h : IRow w a l) (hn : l.length = n) (hl : n ≤ 1000) :
    Calls Try.prog 7 #[.slice a n cap] w fun e w' => ∃ (a' : Option Addr) (cap' : Nat), e = .returned (.slice a' n cap') ∧ IRow w' a' l ∧ Below w.heap.size w w' := by
  have HN := Lib.hid hn
  have HA := Lib.hid h
  clear hn h
  go_enter Try.func7, Try.ntmps7
  go_wp2_with fail
  go_loopw [3, 4] (fun o i wr => OfInv l n w.heap.size w o i wr) (fun _ i _ => n - (intOf i).toNat)
  case atStart => exact ⟨0, Nat.zero_le _, rfl, World.ownsRow_nil _ _ _ _, Below.refl _ _, Nat.le_refl _⟩
  case round =>
    obtain ⟨k, hk, rfl, hO, hG, hB⟩ := hrel
    obtain ⟨base, hbase⟩ : ∃ base, base = w.heap.size := ⟨_, rfl⟩
    by_cases hkl : k < n
    · obtain ⟨⟨xi, xc, xs, ⟨r, q, b, p⟩⟩, hx⟩ := at_some (l := l) (k := k) (by rw [HN.out]; exact hkl)
      obtain ⟨g, o, rfl, hgr, q0, q1, q2, q3, q4, q5, q6⟩ := (HA.out.next hG).at_ k _ hx
      simp only at q0 q1 q2 q3 q4 q5 q6
      have hki : (k : Int) < n := by omega
      have HNX := Lib.hid (take_next' hx)
      have HO := Lib.hid hO
      have HG := Lib.hid hG
      rw [← hbase] at HO hB
      have HBA := Lib.hid hbase
      clear hx hO hG hbase
      obtain ⟨i0, hi, hz0, hz1, hz2⟩ := info_parts infoP8
      go_wp2_with (at_builtin; refine wpList_append_lies _ (by rfl) _ _ _ (by rfl) base 47 i0 (iv 0 0 0 0 0 0 0) 7 56 Try.underlying25 hi hz0 hz1 hz2 rfl (by decide) _ k _ (by rfl) (HO.out.alloc _) ⟨wr.heap.size, 0, none⟩ 1 1 [.int .u64 xi, .int .u64 xc, .int .i64 xs, .int .u64 r, .int .u64 q, .int .u64 b, .int .u64 p] (by rfl) rfl (World.news_of_block (heap_alloc_new wr _)) (fun u hu => by simp at hu; rcases hu with rfl | rfl | rfl | rfl | rfl | rfl | rfl <;> rfl) (by decide) (by unfold maxLen; omega) (by omega) (by simp; omega) _ rfl ?_; intro g1 cap1 y1 hown1 hgrow hat hlt; have BY := (HG.out.alloc HG.out.size (.cells #[.int .u64 xi, .int .u64 xc, .int .i64 xs, .int .u64 r, .int .u64 q, .int .u64 b, .int .u64 p] 47)).grown hgrow (by simp; have := HG.out.size; omega) (fun x hx => by rw [← HBA.out]; exact (HO.out.lt x hx).1); have HBY := Lib.hid BY; have HOY := Lib.hid hown1; have zy : base ≤ y1.heap.size := by have := hgrow.size; simp at this; omega)
      refine ⟨⟨k + 1, by omega, by go_num, ?_, HBY.out, by rw [← HBA.out]; exact zy⟩, by simp [intOf]; omega⟩
      rw [← HBA.out, HNX.out, cellsP_add]
      exact HOY.out
    · obtain rfl : k = n := by omega
      rw [take_all HN.out, ← HN.out] at hO
      obtain ⟨a', cap', hv, hc, hr⟩ := irow_owned hO HA.out.rng
      rw [HN.out] at hv
      subst hv
      have HR := Lib.hid hr
      have HG := Lib.hid hG
      clear hO hr hG
      go_wp2
      go_ret
      exact ⟨a', cap', rfl, HR.out, HG.out⟩
end Go.Proofs.Ytkakjkdjjapiaaa
