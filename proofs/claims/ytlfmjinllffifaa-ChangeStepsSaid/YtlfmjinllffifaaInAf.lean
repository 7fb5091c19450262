/-
  Layer 11: ports as the document has them, a row of them.
-/
import Derived.Test.YtlfmjinllffifaaInOf
namespace Go.Proofs.Ytlfmjinllffifaa
set_option linter.unusedVariables false
set_option linter.unusedSimpArgs false
open Go.RowKit Vm Rm Bm Im

set_option maxRecDepth 100000 in
theorem wpList_rrow1 {ops : Array Oper} {rest : List Oper} {op : Oper} {a : Act} {w : World} {Q : Exit → Act → World → Prop} (hgd : op.guard = none) (x : Operand) (ho : op.op = .buildSlice 34 1 #[(0, x)]) (p : Pt) (hx : a.eval x = .agg (cellsT p))
    (h : wpList Try.prog ops Q rest (a.put op.dst (.slice (some ⟨w.heap.size, 0, none⟩) 1 1)) (w.alloc (.cells (cellsT p) 54))) : wpList Try.prog ops Q (op :: rest) a w := by
  obtain ⟨i0, hi, hz0, hz1, hz2⟩ := info_parts infoR61
  refine wpList_buildSlice hgd 34 54 1 _ ho (cellsT p) i0 _ Try.underlying34 hi hz0 (by rw [hz1]; decide) (by rw [hz1]; decide) ?_ h
  simp only [List.map_toArray, List.map_cons, List.map_nil, hx, hz1]
  kernel_rfl
theorem all_one (p : Pt) : ∀ u ∈ (cellsT p).toList, u.oneCell' = true := fun u hu => by
  have h1 := cellsT_one p
  rw [Array.all_eq_true_iff_forall_mem] at h1
  exact h1 u (by simpa using hu)
def OInv (l : List Pt) (n base : Nat) (w : World) (o i : Value) (wr : World) : Prop :=
  ∃ k : Nat, k ≤ n ∧ i = .int .i64 (k : Nat) ∧ wr.ownsRow base 54 61 o k (cells61 (l.take k)) ∧ Below w.heap.size w wr ∧ base ≤ wr.heap.size

set_option maxRecDepth 20000 in
set_option maxHeartbeats 2000000 in
theorem ofs_w (a : Option Addr) (cap : Nat) (l : List Pt) (w : World) (h : PRow w a l) (hl : l.length ≤ 1000) :
    Calls Try.prog 8 #[.slice a l.length cap] w fun e w' => ∃ (a' : Option Addr) (cap' : Nat), e = .returned (.slice a' l.length cap') ∧ PRow w' a' l ∧ Below w.heap.size w w' := by
  obtain ⟨n, hn⟩ : ∃ n, l.length = n := ⟨_, rfl⟩
  have HN := Lib.hid hn
  rw [hn] at hl ⊢
  have HA := Lib.hid h
  clear hn h
  go_enter Try.func8, Try.ntmps8
  go_wp2_with fail
  go_loopw [3, 4] (fun o i wr => OInv l n w.heap.size w o i wr) (fun _ i _ => n - (intOf i).toNat)
  case atStart => exact ⟨0, Nat.zero_le _, rfl, World.ownsRow_nil _ _ _ _, Below.refl _ _, Nat.le_refl _⟩
  case round =>
    obtain ⟨k, hk, rfl, hO, hG, hB⟩ := hrel
    obtain ⟨base, hbase⟩ : ∃ base, base = w.heap.size := ⟨_, rfl⟩
    by_cases hkl : k < n
    · obtain ⟨p, hx⟩ := at_some (l := l) (k := k) (by rw [HN.out]; exact hkl)
      obtain ⟨g, o, rfl, hgr, hcs⟩ := (HA.out.next hG).at_ k _ hx
      have hki : (k : Int) < n := by omega
      have HNX := Lib.hid (take_nextP hx)
      have HO := Lib.hid hO
      have HG := Lib.hid hG
      have HCS := Lib.hid hcs
      rw [← hbase] at HO hB
      have HBA := Lib.hid hbase
      have h1 := Lib.hid (all_one p)
      clear hx hO hG hbase hcs
      have CF := Lib.hid (fun w' => of11_w p w')
      obtain ⟨i0, hi, hz0, hz1, hz2⟩ := info_parts infoR61
      go_wp2_with (first
          | (with_reducible refine wpList_mid rfl _ rfl _ _ rfl p HCS.out ?_)
          | (go_at_call 20; (with_reducible refine (CF.out _).mono ?_); rintro e y0 ⟨rfl, hb0⟩; have KO := Lib.hid (own_below HO.out hb0); have GY := Lib.hid (bw_trans HG.out hb0); have hys := hb0.size; clear hb0)
          | (with_reducible refine wpList_rrow1 rfl _ rfl p rfl ?_)
          | (at_builtin; refine wpList_append_lies _ (by rfl) _ _ _ (by rfl) base 54 i0 (.agg (cellsT zeroP)) 61 296 Try.underlying34 hi hz0 hz1 hz2 (by exact cellsT_size zeroP) (by decide) _ k _ (by rfl) (KO.out.alloc (.cells (cellsT p) 54)) ⟨y0.heap.size, 0, none⟩ 1 1 (cellsT p).toList (by rfl) (by exact cellsT_len p) (World.news_of_block (heap_alloc_new y0 _)) h1.out (by decide) (by unfold maxLen; omega) (by omega) (by simp; omega) _ rfl ?_; intro g1 cap1 y1 hown1 hgrow hat hlt; have BY := (bw_alloc GY.out (.cells (cellsT p) 54)).grown hgrow (by simp; have := GY.out.size; omega) (fun x hx => by rw [← HBA.out]; exact (KO.out.lt x hx).1); have HBY := Lib.hid BY; have HOY := Lib.hid hown1; have zy : base ≤ y1.heap.size := by have := hgrow.size; simp at this; omega))
      refine ⟨⟨k + 1, by omega, by go_num, ?_, HBY.out, by rw [← HBA.out]; exact zy⟩, by simp [intOf]; omega⟩
      rw [← HBA.out, HNX.out, cells61_add]
      exact HOY.out
    · obtain rfl : k = n := by omega
      rw [take_allP HN.out, ← HN.out] at hO
      obtain ⟨a', cap', hv, hc, hr, _⟩ := prow_owned hO
      rw [HN.out] at hv
      subst hv
      have HR := Lib.hid hr
      have HG := Lib.hid hG
      clear hO hr hG
      go_wp2
      go_ret
      exact ⟨a', cap', rfl, HR.out, HG.out⟩
end Go.Proofs.Ytlfmjinllffifaa
