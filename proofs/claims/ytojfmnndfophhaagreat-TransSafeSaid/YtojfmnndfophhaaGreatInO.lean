/-
  Layer 11: whether a port is to be chosen anew; a bridge's times; given times; New.
-/
import Derived.Test.YtojfmnndfophhaaGreatInN
namespace Go.Proofs.YtojfmnndfophhaaGreat
set_option linter.unusedVariables false
set_option linter.unusedSimpArgs false
open Go.RowKit Vm Rm Bm Im

set_option maxRecDepth 100000 in
/-- A port out of the midst of a row. -/
theorem wpList_mid {ops : Array Oper} {rest : List Oper} {op : Oper} {a : Act} {w : World} {Q : Exit → Act → World → Prop} (hgd : op.guard = none) (x : Operand) (ho : op.op = .load 34 x)
    (b o : Nat) (hx : a.eval x = .pointer (some ⟨b, o, none⟩)) (p : Pt) (hc : w.rangeAt b o (cellsT p).toList)
    (h : wpList Tryz.prog ops Q rest (a.put op.dst (.agg (cellsT p))) w) : wpList Tryz.prog ops Q (op :: rest) a w := by
  refine wpList_load_mid hgd 34 x ho b o hx (cellsT p).toList _ hc rfl rfl ?_ ?_
  · rw [cellsT_len]; exact infoSP
  · rw [Array.toArray_toList]; exact h
set_option maxRecDepth 100000 in
/-- A port out of a block of its own. -/
theorem wpList_pt {ops : Array Oper} {rest : List Oper} {op : Oper} {a : Act} {w : World} {Q : Exit → Act → World → Prop} (hgd : op.guard = none) (x : Operand) (ho : op.op = .load 34 x)
    (b : Nat) (hx : a.eval x = .pointer (some ⟨b, 0, none⟩)) (p : Pt) (hc : PtBlk 34 w b p)
    (h : wpList Tryz.prog ops Q rest (a.put op.dst (.agg (cellsT p))) w) : wpList Tryz.prog ops Q (op :: rest) a w :=
  wpList_load_row hgd 34 x ho b hx 34 (cellsT p) (0, 0) _ hc rfl rfl infoSP h
set_option maxRecDepth 100000 in
/-- A port into a block of its own. -/
theorem wpList_ptst {ops : Array Oper} {rest : List Oper} {op : Oper} {a : Act} {w : World} {Q : Exit → Act → World → Prop} (hgd : op.guard = none) (x y : Operand) (ho : op.op = .store 34 x y)
    (b : Nat) (hx : a.eval x = .pointer (some ⟨b, 0, none⟩)) (p q : Pt) (hy : a.eval y = .agg (cellsT p)) (hc : PtBlk 34 w b q)
    (h : wpList Tryz.prog ops Q rest (a.put op.dst undef) (w.setRow b (cellsT p))) : wpList Tryz.prog ops Q (op :: rest) a w :=
  wpList_store_row hgd 34 x y ho b (cellsT p) hx hy 34 _ hc infoSP rfl (cellsT_one p) h
/-- A block of its own, made and filled at once. -/
theorem oneP_is (w : World) (p : Pt) : ∃ (W : World) (nb : Nat), Hid (w.alloc (.cells (cellsT p) 34) = W) ∧ Hid (w.heap.size = nb) ∧ PtBlk 34 W nb p ∧ Below nb w W :=
  ⟨_, _, Lib.hid rfl, Lib.hid rfl, ptblk_new _ w p, below_box w _⟩

set_option maxRecDepth 20000 in
set_option maxHeartbeats 400000 in
theorem choose1_w (p : Pt) (R : Bool) (w : World) (hR : Hid (p.reselect = R)) :
    Calls Tryz.prog 28 #[.agg (cellsT p)] w fun e w' => e = .returned (.bool R) ∧ Below w.heap.size w w' := by
  obtain ⟨W, nb, HW, HN, k0, kB⟩ := oneP_is w p
  have KB := Lib.hid kB
  have c := k0.c_reselect
  rw [hR.out] at c
  clear k0 kB hR
  go_enter Tryz.func28, Tryz.ntmps28
  go_upto_region 1 with (fail)
  refine wp_to (W := W) (by exact HW.out.symm) ?_
  rw [HN.out]
  go_wp2
  go_ret
  exact ⟨rfl, HN.out ▸ KB.out⟩

def XInv (l : List Pt) (n : Nat) (w : World) (v : Value) (wr : World) : Prop :=
  ∃ k : Nat, k ≤ n ∧ v = .int .i64 (k : Nat) ∧ (l.take k).any Pt.reselect = false ∧ Below w.heap.size w wr
theorem take_nextP {l : List Pt} {k : Nat} {x : Pt} (h : l[k]? = some x) : l.take (k + 1) = l.take k ++ [x] := by rw [List.take_add_one, h]; rfl
theorem take_allP {l : List Pt} {n : Nat} (h : l.length = n) : l.take n = l := by rw [← h, List.take_length]

set_option maxRecDepth 20000 in
set_option maxHeartbeats 1000000 in
theorem indexP_w (a : Option Addr) (cap : Nat) (l : List Pt) (R : Bool) (w : World) (h : PRow w a l) (hl : l.length ≤ 1000) (hR : Hid (l.any Pt.reselect = R)) :
    Calls Tryz.prog 41 #[.slice a l.length cap, .func (.func 28) #[] #[]] w fun e w' =>
      ∃ r : Int, e = .returned (.int .i64 r) ∧ (R = true → 0 ≤ r) ∧ (R = false → r = -1) ∧ Below w.heap.size w w' := by
  obtain ⟨n, hn⟩ : ∃ n, l.length = n := ⟨_, rfl⟩
  have HN := Lib.hid hn
  rw [hn] at hl ⊢
  have HA := Lib.hid h
  clear h hn
  go_enter Tryz.func41, Tryz.ntmps41
  go_wp2_with fail
  go_loopw [8] (fun v wr => XInv l n w v wr) (fun v _ => n - (intOf v).toNat)
  case atStart => exact ⟨0, Nat.zero_le _, rfl, rfl, Below.refl _ _⟩
  case round =>
    obtain ⟨k, hk, rfl, hno, hG⟩ := hrel
    by_cases hkl : k < n
    · obtain ⟨p, hx⟩ := at_some (l := l) (k := k) (by rw [HN.out]; exact hkl)
      obtain ⟨g, o, rfl, hgr, hcs⟩ := (HA.out.next hG).at_ k _ hx
      have HNO := Lib.hid hno
      have HX := Lib.hid hx
      have HCS := Lib.hid hcs
      have HGG := Lib.hid hG
      have hki : (k : Int) < n := by omega
      clear hno hx hcs hG
      obtain ⟨D, hD⟩ : ∃ D, p.reselect = D := ⟨_, rfl⟩
      have HF := choose1_w p D wr (Lib.hid hD)
      cases D with
      | true =>
        have hy : R = true := by rw [← hR.out]; exact List.any_eq_true.2 ⟨p, List.mem_of_getElem? HX.out, hD⟩
        clear hD
        go_wp2_with (first
          | (with_reducible refine wpList_mid rfl _ rfl _ _ rfl p HCS.out ?_)
          | (go_at_call 28; refine HF.mono ?_; clear HF; rintro e w1 ⟨rfl, hG1⟩))
        go_ret
        exact ⟨(k : Nat), rfl, fun _ => by omega, fun e => (by rw [hy] at e; cases e), bw_trans HGG.out hG1⟩
      | false =>
        have HD := Lib.hid hD
        clear hD
        go_wp2_with (first
          | (with_reducible refine wpList_mid rfl _ rfl _ _ rfl p HCS.out ?_)
          | (go_at_call 28; refine HF.mono ?_; clear HF; rintro e w1 ⟨rfl, hG1⟩))
        refine ⟨⟨k + 1, by omega, by go_num, ?_, bw_trans HGG.out hG1⟩, by simp [intOf]; omega⟩
        rw [take_nextP HX.out, List.any_append, HNO.out]
        simp [HD.out]
    · obtain rfl : k = n := by omega
      have hy : R = false := by rw [← hR.out, ← hno, take_allP HN.out]
      go_wp2
      go_ret
      exact ⟨-1, rfl, fun e => (by rw [hy] at e; cases e), fun _ => rfl, hG⟩

set_option maxHeartbeats 1000000 in
theorem containsP_w (a : Option Addr) (cap : Nat) (l : List Pt) (R : Bool) (w : World) (h : PRow w a l) (hl : l.length ≤ 1000) (hR : Hid (l.any Pt.reselect = R)) :
    Calls Tryz.prog 27 #[.slice a l.length cap, .func (.func 28) #[] #[]] w fun e w' => e = .returned (.bool R) ∧ Below w.heap.size w w' := by
  have HF := indexP_w a cap l R w h hl hR
  clear h hl hR
  go_enter Tryz.func27, Tryz.ntmps27
  cases R with
  | true =>
    go_wp2_with (go_at_call 41; refine HF.mono ?_; clear HF; rintro e w1 ⟨r, rfl, h1, h2, hG1⟩; replace h1 := h1 rfl; clear h2)
    go_ret
    exact ⟨rfl, hG1⟩
  | false =>
    go_wp2_with (go_at_call 41; refine HF.mono ?_; clear HF; rintro e w1 ⟨r, rfl, h1, h2, hG1⟩; replace h2 := h2 rfl; clear h1; subst h2)
    go_ret
    exact ⟨rfl, hG1⟩

/-! ### A bridge -/
abbrev brv (i a m h d : Int) : Value := .agg #[.int .u64 i, .int .i64 a, .int .i64 m, .int .i64 h, .int .i64 d]
theorem iwithin_w (n l m : Int) (w : World) :
    Calls Tryz.prog 34 #[.int .i64 n, .int .i64 l, .int .i64 m] w fun e w' => e = .returned (.bool (decide (l ≤ n ∧ n ≤ m))) ∧ w = w' := by
  go_enter Tryz.func34, Tryz.ntmps34
  go_wp2
  all_goals go_ret
  all_goals (first | (refine ⟨?_, rfl⟩; refine ret_val ?_; simp; omega) | skip)

set_option maxHeartbeats 1000000 in
theorem brRight_w (i a m h d : Int) (R : Bool) (w : World) (hR : Hid (rightBr ⟨a, m, h, d⟩ = R)) :
    Calls Tryz.prog 20 #[brv i a m h d] w fun e w' => e = .returned (.bool R) ∧ Below w.heap.size w w' := by
  rw [← hR.out]
  clear hR
  obtain ⟨A, hA⟩ : ∃ A, decide (6 ≤ m ∧ m ≤ 40) = A := ⟨_, rfl⟩
  obtain ⟨B, hB⟩ : ∃ B, decide (1 ≤ h ∧ h ≤ 2) = B := ⟨_, rfl⟩
  obtain ⟨C, hC⟩ : ∃ C, decide (4 ≤ d ∧ d ≤ 30) = C := ⟨_, rfl⟩
  have ha := iwithin_w m 6 40
  have hb := iwithin_w h 1 2
  have hc := iwithin_w d 4 30
  rw [hA] at ha
  rw [hB] at hb
  rw [hC] at hc
  have e : rightBr ⟨a, m, h, d⟩ = (A && (B && (C && decide (a = 0)))) := by
    unfold rightBr
    rw [← hA, ← hB, ← hC]
    simp only [← Bool.decide_and]
    exact decide_eq_decide.2 ⟨fun h => ⟨h.2.1, h.2.2.1, h.2.2.2, h.1⟩, fun h => ⟨h.2.2.2, h.1, h.2.1, h.2.2.1⟩⟩
  rw [e]
  clear hA hB hC e
  cases A <;> cases B <;> cases C
  all_goals
    go_enter Tryz.func20, Tryz.ntmps20
    go_wp2_with (go_at_call 34; (first | (with_reducible refine (ha _).mono ?_) | (with_reducible refine (hb _).mono ?_) | (with_reducible refine (hc _).mono ?_)); rintro e w1 ⟨rfl, rfl⟩)
    all_goals go_ret
    all_goals (refine ⟨?_, bw_alloc (below_box w _) _⟩; first | rfl | (simp) | (simp; omega))
end Go.Proofs.YtojfmnndfophhaaGreat
