/-
  Layer 11: a row of ports, in memory; Clone; whether one of them is to be chosen anew.
  Layer 11: whether a port is to be chosen anew; a bridge's times; given times; New.
  Layer 11: New; given times; what layer 8 is told of the ports.
-/
import Derived.Test.YtldobcfejldbiaaGreatDoorMai
import Derived.Test.YtldobcfejldbiaaGreatDoorMae
import Derived.Maps.AppendAt
import Derived.Deep.AppendLies
import Derived.Deep.MidRow
import Derived.Lib.SliceRun
namespace Go.Proofs.YtldobcfejldbiaaGreatDoor
set_option linter.unusedVariables false
set_option linter.unusedSimpArgs false
open Go.RowKit Vm Rm Bm Im

theorem hear_w (p X : Pt) (q : Bp) (w : World) (ho : p.vec.ok) (hqo : BpOk q) (hX : Hid (hearP p q = X)) :
    Calls Tryz.prog 43 #[.agg (cellsT p), bq q] w fun e w' => e = .returned (.agg (cellsT X)) ∧ Below w.heap.size w w' := by
  rw [← hX.out]
  cases hp : p.on with
  | false =>
    rw [show hearP p q = p from by unfold hearP; rw [if_pos (.inl hp)]]
    exact hear_off_w p q w hp
  | true =>
    cases hb : heardB q with
    | false =>
      rw [show hearP p q = p from by unfold hearP; rw [if_pos (.inr hb)]]
      exact hear_bad_w p q w hp hb
    | true =>
      have hd := heard_hd hb
      have hr := heard_range p q
      refine hear_yes_w p _ q (heardP p q) w hp hb hd ho hqo (Lib.hid rfl) (Lib.hid ?_) ?_
      · unfold hearP
        rw [if_neg (show ¬ (p.on = false ∨ heardB q = false) by rw [hp, hb]; simp)]
        unfold answerP
        obtain h | h | h | h | h : heardP p q = 0 ∨ heardP p q = 1 ∨ heardP p q = 2 ∨ heardP p q = 3 ∨ heardP p q = 4 := by omega
        all_goals rw [h]
        all_goals simp
      · intro h4
        rcases hd.kind with hk | hk
        · exfalso
          unfold heardP at h4
          rw [if_neg (by rw [hb]; simp), if_pos (.inl hk)] at h4
          revert h4
          repeat' split
          all_goals omega
        · exact hk

/-! ### Many ports, as cells -/
theorem cellsT_len (p : Pt) : (cellsT p).toList.length = 61 := rfl
def cells61 (l : List Pt) : List Value := l.flatMap (fun p => (cellsT p).toList)
theorem cells61_length (l : List Pt) : (cells61 l).length = l.length * 61 := by
  induction l with
  | nil => rfl
  | cons v l ih =>
    have e : cells61 (v :: l) = (cellsT v).toList ++ cells61 l := rfl
    rw [e, List.length_append, ih, List.length_cons, cellsT_len]
    omega
theorem cells61_add (l : List Pt) (x : Pt) : cells61 (l ++ [x]) = cells61 l ++ (cellsT x).toList := by simp [cells61]
theorem cells61_at {l : List Pt} {j : Nat} {p : Pt} (h : l[j]? = some p) (c : Nat) (hc : c < 61) : (cells61 l)[j * 61 + c]? = (cellsT p).toList[c]? := by
  induction l generalizing j with
  | nil => simp at h
  | cons y l ih =>
    have e : cells61 (y :: l) = (cellsT y).toList ++ cells61 l := rfl
    have ly := cellsT_len y
    rw [e]
    cases j with
    | zero =>
      simp only [List.getElem?_cons_zero, Option.some.injEq] at h
      subst h
      rw [List.getElem?_append_left (by omega)]
      congr 1; omega
    | succ j =>
      rw [List.getElem?_append_right (by omega), ly]
      have := ih (j := j) (by simpa using h)
      rw [← this]
      congr 1; omega
theorem cells61_one (l : List Pt) : ∀ u ∈ cells61 l, u.oneCell' = true := by
  intro u hu
  obtain ⟨p, _, hp⟩ := List.mem_flatMap.1 hu
  have h1 := cellsT_one p
  rw [Array.all_eq_true_iff_forall_mem] at h1
  exact h1 u (by simpa using hp)
theorem setCells_size (b : Nat) : ∀ (vs : List Value) (o : Nat) (w : World), (w.setCells b o vs).heap.size = w.heap.size
  | [], _, _ => rfl
  | v :: r, o, w => by rw [World.setCells, setCells_size b r (o + 1) _, size_set]
/-- A row of ports. -/
structure PRow (w : World) (a : Option Addr) (l : List Pt) : Prop where
  at_ : ∀ j p, l[j]? = some p → ∃ g o : Nat, a = some ⟨g, o, none⟩ ∧ g < w.heap.size ∧ w.rangeAt g (o + j * 61) (cellsT p).toList
theorem prow_nil (w : World) (a : Option Addr) : PRow w a [] := ⟨fun j p h => by simp at h⟩
theorem range_next {w w' : World} {g o B : Nat} {cs : List Value} (h : w.rangeAt g o cs) (hg : g < B) (hb : Below B w w') : w'.rangeAt g o cs := fun j v hv => (hb.cell (p := ⟨g, o + j, none⟩) hg).trans (h j v hv)
theorem PRow.next {w w' : World} {a : Option Addr} {l : List Pt} (h : PRow w a l) (hb : Below w.heap.size w w') : PRow w' a l :=
  ⟨fun j p hp => by obtain ⟨g, o, e, hg, k⟩ := h.at_ j p hp; exact ⟨g, o, e, Nat.lt_of_lt_of_le hg hb.size, range_next k hg hb⟩⟩
/-- A row of ports in a block of its own, which may be written. -/
structure WRow (w : World) (g : Nat) (l : List Pt) : Prop where
  lt : g < w.heap.size
  at_ : ∀ j p, l[j]? = some p → w.rangeAt g (j * 61) (cellsT p).toList
  free : w.there g 0 (l.length * 61)
theorem there_next {w w' : World} {g o n B : Nat} (h : w.there g o n) (hg : g < B) (hb : Below B w w') : w'.there g o n := fun j hj => by
  have h0 := hb.block g hg
  obtain ⟨h1, h2⟩ := h j hj
  constructor
  · rw [hb.cell (p := ⟨g, o + j, none⟩) hg]; exact h1
  · unfold World.frozen? at h2 ⊢
    simp only [h0]
    exact h2
theorem WRow.next {w w' : World} {g : Nat} {l : List Pt} (h : WRow w g l) (hb : Below w.heap.size w w') : WRow w' g l :=
  ⟨Nat.lt_of_lt_of_le h.lt hb.size, fun j p hp => range_next (h.at_ j p hp) h.lt hb, there_next h.free h.lt hb⟩
theorem WRow.row {w : World} {g : Nat} {l : List Pt} (h : WRow w g l) : PRow w (some ⟨g, 0, none⟩) l :=
  ⟨fun j p hp => ⟨g, 0, rfl, h.lt, by rw [Nat.zero_add]; exact h.at_ j p hp⟩⟩
theorem WRow.at61 {w : World} {g : Nat} {l : List Pt} (h : WRow w g l) {k : Nat} (hk : k < l.length) : w.there g (k * 61) 61 := fun j hj => by
  have := h.free (k * 61 + j) (by omega)
  rw [Nat.zero_add] at this
  exact this
theorem WRow.set {w : World} {g : Nat} {l : List Pt} (h : WRow w g l) {k : Nat} (hk : k < l.length) (X : Pt) : WRow (w.setCells g (k * 61) (cellsT X).toList) g (l.set k X) := by
  have hf := h.at61 hk
  refine ⟨by rw [setCells_size]; exact h.lt, fun j p hp => ?_, ?_⟩
  · by_cases hj : k = j
    · subst hj
      rw [List.getElem?_set_self hk] at hp
      cases hp
      exact World.rangeAt_setCells_same w g (k * 61) _ (by rw [cellsT_len]; exact hf)
    · rw [List.getElem?_set_ne hj] at hp
      exact World.rangeAt_setCells_apart (h.at_ j p hp) g (k * 61) _ (.inr (by rw [cellsT_len, cellsT_len]; omega))
  · rw [List.length_set]
    exact World.there_setCells h.free _ _ _
theorem info61 : (Tryz.prog.info? 78).map (fun i => (i.zero, i.size, i.bytes)) = some (some (.agg (cellsT zeroP)), 61, 296) := by kernel_rfl
theorem prow_owned {w : World} {base : Nat} {T : TypeId} {v : Value} {l : List Pt} (h : w.ownsRow base T 61 v l.length (cells61 l)) : ∃ (a : Option Addr) (cap : Nat), v = .slice a l.length cap ∧ l.length ≤ cap ∧ PRow w a l ∧ ((a = none ∧ l = []) ∨ ∃ g, a = some ⟨g, 0, none⟩ ∧ base ≤ g ∧ WRow w g l) := by
  rcases h.2 with ⟨rfl, h0⟩ | ⟨g, cap, cur, rfl, hbg, hg, hnc, hcm, hcs, htake⟩
  · have : l = [] := List.eq_nil_of_length_eq_zero h0
    subst this
    exact ⟨none, 0, rfl, Nat.le_refl _, prow_nil _ _, .inl ⟨rfl, rfl⟩⟩
  · have hlt := (Array.getElem?_eq_some_iff.1 hg).1
    have hW : WRow w g l := by
      refine ⟨hlt, fun j p hp => ?_, ?_⟩
      · intro c v hv
        have hjl := (List.getElem?_eq_some_iff.1 hp).1
        have hc : c < 61 := by have := (List.getElem?_eq_some_iff.1 hv).1; rw [cellsT_len] at this; exact this
        have h1 := h.cellAt (j * 61 + c) (by omega)
        rw [cells61_at hp c hc, hv] at h1
        exact h1
      · intro j hj
        have h1 := h.cellAt j (by omega)
        have h2 : j < (cells61 l).length := by rw [cells61_length]; exact hj
        rw [Nat.zero_add]
        refine ⟨by rw [h1, List.getElem?_eq_getElem h2]; rfl, ?_⟩
        simp [World.frozen?, hg]
    exact ⟨_, cap, rfl, hnc, hW.row, .inr ⟨g, rfl, hbg, hW⟩⟩
theorem PRow.news {w : World} {ad : Addr} {l : List Pt} (h : PRow w (some ad) l) : ∀ j u, (cells61 l)[j]? = some u → w.cell? (ad.add j) = some u := by
  intro j u hj
  have hl : j < l.length * 61 := by have := (List.getElem?_eq_some_iff.1 hj).1; rwa [cells61_length] at this
  have hk : j / 61 < l.length := Nat.div_lt_of_lt_mul (by omega)
  obtain ⟨p, hp⟩ := at_some (l := l) (k := j / 61) hk
  obtain ⟨g, o, e, hg, hc⟩ := h.at_ (j / 61) p hp
  cases e
  have hj2 : j / 61 * 61 + j % 61 = j := by omega
  have h1 := cells61_at hp (j % 61) (Nat.mod_lt _ (by omega))
  rw [hj2, hj] at h1
  have h2 := hc (j % 61) u h1.symm
  rw [Addr.add_mid]
  rw [show o + j = o + j / 61 * 61 + j % 61 from by omega]
  exact h2

set_option maxRecDepth 20000 in
set_option maxHeartbeats 1000000 in
theorem clone_w (a : Option Addr) (cap : Nat) (l : List Pt) (w : World) (h : PRow w a l) (hl : l.length ≤ 1000) :
    Calls Tryz.prog 55 #[.slice a l.length cap] w fun e w' => ∃ a' cap', e = .returned (.slice a' l.length cap') ∧ l.length ≤ cap' ∧ ((a' = none ∧ l = []) ∨ ∃ g, a' = some ⟨g, 0, none⟩ ∧ w.heap.size ≤ g ∧ WRow w' g l) ∧ Below w.heap.size w w' := by
  cases a with
  | none =>
    obtain rfl : l = [] := by
      cases l with
      | nil => rfl
      | cons p l => obtain ⟨g, o, e, _⟩ := h.at_ 0 p rfl; cases e
    have hq : ∀ w, Sem.run Tryz.prog (binOp .eql 71 (.slice none 0 cap) (.slice none 0 0)) w = .ok (.bool true) w := fun w => Lib.run_eql_slice_nil w 71 78 none 0 cap 0 0 Tryz.underlying71
    clear h
    go_enter Tryz.func55, Tryz.ntmps55
    go_wp2
    all_goals go_ret
    all_goals exact ⟨none, 0, rfl, by omega, by simp, Below.refl _ _⟩
  | some ad =>
    obtain ⟨i0, hi, hz0, hz1, hz2⟩ := info_parts info61
    have O := World.ownsRow_lit (base := w.heap.size) (e := 78) (size := 61) w #[] 0 (Nat.le_refl _) (Nat.zero_le _) rfl
    have hW := below_box w (.cells #[] 78)
    have hnews := (h.next hW).news
    have hq : ∀ w, Sem.run Tryz.prog (binOp .eql 71 (.slice (some ad) l.length cap) (.slice none 0 0)) w = .ok (.bool false) w := fun w => Lib.run_eql_slice_nil w 71 78 (some ad) l.length cap 0 0 Tryz.underlying71
    have HC := Lib.hid (cells61_length l)
    have H1 := Lib.hid (cells61_one l)
    clear h
    go_enter Tryz.func55, Tryz.ntmps55
    go_wp2_with (at_builtin; refine wpList_append_own_at _ (by rfl) _ _ _ (by rfl) w.heap.size 78 i0 (.agg (cellsT zeroP)) 61 296 Tryz.underlying71 hi hz0 hz1 hz2 (by exact cellsT_size zeroP) (by decide) _ 0 _ (by rfl) O ad l.length cap (cells61 l) (by rfl) HC.out hnews H1.out (by unfold maxLen; omega) (by omega) (by simp) ?_; intro v' w1 hown hgrow hnil hat)
    obtain ⟨a', cap', rfl, hcap, hrow, hw⟩ := prow_owned (l := l) (by simpa using hown)
    have hB : Below w.heap.size w w1 := hW.grown hgrow (by simp) (fun j e => by simp [Value.ownBlock] at e; omega)
    go_ret
    exact ⟨a', cap', rfl, hcap, hw, hB⟩
end Go.Proofs.YtldobcfejldbiaaGreatDoor

namespace Go.Proofs.YtldobcfejldbiaaGreatDoor
set_option linter.unusedVariables false
set_option linter.unusedSimpArgs false
open Go.RowKit Vm Rm Bm Im

set_option maxRecDepth 100000 in
/-- A port out of the midst of a row. -/
theorem wpList_mid {ops : Array Oper} {rest : List Oper} {op : Oper} {a : Act} {w : World} {Q : Exit → Act → World → Prop} (hgd : op.guard = none) (x : Operand) (ho : op.op = .load 78 x)
    (b o : Nat) (hx : a.eval x = .pointer (some ⟨b, o, none⟩)) (p : Pt) (hc : w.rangeAt b o (cellsT p).toList)
    (h : wpList Tryz.prog ops Q rest (a.put op.dst (.agg (cellsT p))) w) : wpList Tryz.prog ops Q (op :: rest) a w := by
  refine wpList_load_mid hgd 78 x ho b o hx (cellsT p).toList _ hc rfl rfl ?_ ?_
  · rw [cellsT_len]; exact infoSP
  · rw [Array.toArray_toList]; exact h
set_option maxRecDepth 100000 in
/-- A port out of a block of its own. -/
theorem wpList_pt {ops : Array Oper} {rest : List Oper} {op : Oper} {a : Act} {w : World} {Q : Exit → Act → World → Prop} (hgd : op.guard = none) (x : Operand) (ho : op.op = .load 78 x)
    (b : Nat) (hx : a.eval x = .pointer (some ⟨b, 0, none⟩)) (p : Pt) (hc : PtBlk 78 w b p)
    (h : wpList Tryz.prog ops Q rest (a.put op.dst (.agg (cellsT p))) w) : wpList Tryz.prog ops Q (op :: rest) a w :=
  wpList_load_row hgd 78 x ho b hx 78 (cellsT p) (0, 0) _ hc rfl rfl infoSP h
set_option maxRecDepth 100000 in
/-- A port into a block of its own. -/
theorem wpList_ptst {ops : Array Oper} {rest : List Oper} {op : Oper} {a : Act} {w : World} {Q : Exit → Act → World → Prop} (hgd : op.guard = none) (x y : Operand) (ho : op.op = .store 78 x y)
    (b : Nat) (hx : a.eval x = .pointer (some ⟨b, 0, none⟩)) (p q : Pt) (hy : a.eval y = .agg (cellsT p)) (hc : PtBlk 78 w b q)
    (h : wpList Tryz.prog ops Q rest (a.put op.dst undef) (w.setRow b (cellsT p))) : wpList Tryz.prog ops Q (op :: rest) a w :=
  wpList_store_row hgd 78 x y ho b (cellsT p) hx hy 78 _ hc infoSP rfl (cellsT_one p) h
/-- A block of its own, made and filled at once. -/
theorem oneP_is (w : World) (p : Pt) : ∃ (W : World) (nb : Nat), Hid (w.alloc (.cells (cellsT p) 78) = W) ∧ Hid (w.heap.size = nb) ∧ PtBlk 78 W nb p ∧ Below nb w W :=
  ⟨_, _, Lib.hid rfl, Lib.hid rfl, ptblk_new _ w p, below_box w _⟩

set_option maxRecDepth 20000 in
set_option maxHeartbeats 400000 in
theorem choose1_w (p : Pt) (R : Bool) (w : World) (hR : Hid (p.reselect = R)) :
    Calls Tryz.prog 61 #[.agg (cellsT p)] w fun e w' => e = .returned (.bool R) ∧ Below w.heap.size w w' := by
  obtain ⟨W, nb, HW, HN, k0, kB⟩ := oneP_is w p
  have KB := Lib.hid kB
  have c := k0.c_reselect
  rw [hR.out] at c
  clear k0 kB hR
  go_enter Tryz.func61, Tryz.ntmps61
  go_upto_region 1 with (fail)
  refine wp_to (W := W) (by exact HW.out.symm) ?_
  rw [HN.out]
  go_wp2
  go_ret
  exact ⟨rfl, HN.out ▸ KB.out⟩

def XInv (l : List Pt) (n : Nat) (w : World) (v : Value) (wr : World) : Prop :=
  ∃ k : Nat, k ≤ n ∧ v = .int .i64 (k : Nat) ∧ (l.take k).any Pt.reselect = false ∧ Below w.heap.size w wr
theorem take_nextP {l : List Pt} {k : Nat} {x : Pt} (h : l[k]? = some x) : l.take (k + 1) = l.take k ++ [x] := by rw [List.take_add_one, h]; rfl
theorem take_allP {l : List Pt} {n : Nat} (h : l.length = n) : l.take n = l := by rw [← h, List.take_length]

set_option maxRecDepth 20000 in
set_option maxHeartbeats 1000000 in
theorem indexP_w (a : Option Addr) (cap : Nat) (l : List Pt) (R : Bool) (w : World) (h : PRow w a l) (hl : l.length ≤ 1000) (hR : Hid (l.any Pt.reselect = R)) :
    Calls Tryz.prog 104 #[.slice a l.length cap, .func (.func 61) #[] #[]] w fun e w' =>
      ∃ r : Int, e = .returned (.int .i64 r) ∧ (R = true → 0 ≤ r) ∧ (R = false → r = -1) ∧ Below w.heap.size w w' := by
  obtain ⟨n, hn⟩ : ∃ n, l.length = n := ⟨_, rfl⟩
  have HN := Lib.hid hn
  rw [hn] at hl ⊢
  have HA := Lib.hid h
  clear h hn
  go_enter Tryz.func104, Tryz.ntmps104
  go_wp2_with fail
  go_loopw [8] (fun v wr => XInv l n w v wr) (fun v _ => n - (intOf v).toNat)
  case atStart => exact ⟨0, Nat.zero_le _, rfl, rfl, Below.refl _ _⟩
  case round =>
    obtain ⟨k, hk, rfl, hno, hG⟩ := hrel
    by_cases hkl : k < n
    · obtain ⟨p, hx⟩ := at_some (l := l) (k := k) (by rw [HN.out]; exact hkl)
      obtain ⟨g, o, rfl, hgr, hcs⟩ := (HA.out.next hG).at_ k _ hx
      have HNO := Lib.hid hno
      have HX := Lib.hid hx
      have HCS := Lib.hid hcs
      have HGG := Lib.hid hG
      have hki : (k : Int) < n := by omega
      clear hno hx hcs hG
      obtain ⟨D, hD⟩ : ∃ D, p.reselect = D := ⟨_, rfl⟩
      have HF := choose1_w p D wr (Lib.hid hD)
      cases D with
      | true =>
        have hy : R = true := by rw [← hR.out]; exact List.any_eq_true.2 ⟨p, List.mem_of_getElem? HX.out, hD⟩
        clear hD
        go_wp2_with (first
          | (with_reducible refine wpList_mid rfl _ rfl _ _ rfl p HCS.out ?_)
          | (go_at_call 61; refine HF.mono ?_; clear HF; rintro e w1 ⟨rfl, hG1⟩))
        go_ret
        exact ⟨(k : Nat), rfl, fun _ => by omega, fun e => (by rw [hy] at e; cases e), bw_trans HGG.out hG1⟩
      | false =>
        have HD := Lib.hid hD
        clear hD
        go_wp2_with (first
          | (with_reducible refine wpList_mid rfl _ rfl _ _ rfl p HCS.out ?_)
          | (go_at_call 61; refine HF.mono ?_; clear HF; rintro e w1 ⟨rfl, hG1⟩))
        refine ⟨⟨k + 1, by omega, by go_num, ?_, bw_trans HGG.out hG1⟩, by simp [intOf]; omega⟩
        rw [take_nextP HX.out, List.any_append, HNO.out]
        simp [HD.out]
    · obtain rfl : k = n := by omega
      have hy : R = false := by rw [← hR.out, ← hno, take_allP HN.out]
      go_wp2
      go_ret
      exact ⟨-1, rfl, fun e => (by rw [hy] at e; cases e), fun _ => rfl, hG⟩

set_option maxHeartbeats 1000000 in
theorem containsP_w (a : Option Addr) (cap : Nat) (l : List Pt) (R : Bool) (w : World) (h : PRow w a l) (hl : l.length ≤ 1000) (hR : Hid (l.any Pt.reselect = R)) :
    Calls Tryz.prog 60 #[.slice a l.length cap, .func (.func 61) #[] #[]] w fun e w' => e = .returned (.bool R) ∧ Below w.heap.size w w' := by
  have HF := indexP_w a cap l R w h hl hR
  clear h hl hR
  go_enter Tryz.func60, Tryz.ntmps60
  cases R with
  | true =>
    go_wp2_with (go_at_call 104; refine HF.mono ?_; clear HF; rintro e w1 ⟨r, rfl, h1, h2, hG1⟩; replace h1 := h1 rfl; clear h2)
    go_ret
    exact ⟨rfl, hG1⟩
  | false =>
    go_wp2_with (go_at_call 104; refine HF.mono ?_; clear HF; rintro e w1 ⟨r, rfl, h1, h2, hG1⟩; replace h2 := h2 rfl; clear h1; subst h2)
    go_ret
    exact ⟨rfl, hG1⟩

/-! ### A bridge -/
abbrev brv (i a m h d : Int) : Value := .agg #[.int .u64 i, .int .i64 a, .int .i64 m, .int .i64 h, .int .i64 d]
theorem iwithin_w (n l m : Int) (w : World) :
    Calls Tryz.prog 103 #[.int .i64 n, .int .i64 l, .int .i64 m] w fun e w' => e = .returned (.bool (decide (l ≤ n ∧ n ≤ m))) ∧ w = w' := by
  go_enter Tryz.func103, Tryz.ntmps103
  go_wp2
  all_goals go_ret
  all_goals (first | (refine ⟨?_, rfl⟩; refine ret_val ?_; simp; omega) | skip)

set_option maxHeartbeats 1000000 in
theorem brRight_w (i a m h d : Int) (R : Bool) (w : World) (hR : Hid (rightBr ⟨a, m, h, d⟩ = R)) :
    Calls Tryz.prog 59 #[brv i a m h d] w fun e w' => e = .returned (.bool R) ∧ Below w.heap.size w w' := by
  rw [← hR.out]
  clear hR
  obtain ⟨A, hA⟩ : ∃ A, decide (6 ≤ m ∧ m ≤ 40) = A := ⟨_, rfl⟩
  obtain ⟨B, hB⟩ : ∃ B, decide (1 ≤ h ∧ h ≤ 2) = B := ⟨_, rfl⟩
  obtain ⟨C, hC⟩ : ∃ C, decide (4 ≤ d ∧ d ≤ 30) = C := ⟨_, rfl⟩
  have ha := iwithin_w m 6 40
  have hb := iwithin_w h 1 2
  have hc := iwithin_w d 4 30
  rw [hA] at ha
  rw [hB] at hb
  rw [hC] at hc
  have e : rightBr ⟨a, m, h, d⟩ = (A && (B && (C && decide (a = 0)))) := by
    unfold rightBr
    rw [← hA, ← hB, ← hC]
    simp only [← Bool.decide_and]
    exact decide_eq_decide.2 ⟨fun h => ⟨h.2.1, h.2.2.1, h.2.2.2, h.1⟩, fun h => ⟨h.2.2.2, h.1, h.2.1, h.2.2.1⟩⟩
  rw [e]
  clear hA hB hC e
  cases A <;> cases B <;> cases C
  all_goals
    go_enter Tryz.func59, Tryz.ntmps59
    go_wp2_with (go_at_call 103; (first | (with_reducible refine (ha _).mono ?_) | (with_reducible refine (hb _).mono ?_) | (with_reducible refine (hc _).mono ?_)); rintro e w1 ⟨rfl, rfl⟩)
    all_goals go_ret
    all_goals (refine ⟨?_, bw_alloc (below_box w _) _⟩; first | rfl | (simp) | (simp; omega))
end Go.Proofs.YtldobcfejldbiaaGreatDoor

namespace Go.Proofs.YtldobcfejldbiaaGreatDoor
set_option linter.unusedVariables false
set_option linter.unusedSimpArgs false
open Go.RowKit Vm Rm Bm Im

theorem wpList_built {P : Program} {ops : Array Oper} {rest : List Oper} {op : Oper} {a : Act} {w : World} {Q : Exit → Act → World → Prop} (hgd : op.guard = none) (t : TypeId) (parts : Array (Nat × Operand)) (ho : op.op = .build t parts)
    (cells : Array Value) (hf : P.built t (parts.map fun (i, x) => (i, a.eval x)).toList = some cells) (h : wpList P ops Q rest (a.put op.dst (.agg cells)) w) : wpList P ops Q (op :: rest) a w :=
  wpList_plain hgd fun K hK => by
    refine wp_build t parts ho (by rw [hf]; rfl) ?_
    rw [hf]
    exact hK _ _ h

set_option maxRecDepth 100000 in
set_option maxHeartbeats 1000000 in
theorem new_w (i c : Int) (e : Bool) (X : Pt) (w : World) (hX : Hid (newP i c e = X)) :
    Calls Tryz.prog 58 #[.int .u64 i, .int .u64 c, .bool e] w fun e w' => e = .returned (.agg (cellsT X)) ∧ Below w.heap.size w w' := by
  obtain ⟨W, nb, HW, HN, k0, kB⟩ := oneP_is w zeroP
  have K0 := Lib.hid k0
  have KB := Lib.hid kB
  clear k0 kB
  rw [← hX.out]
  clear hX
  go_enter Tryz.func58, Tryz.ntmps58
  go_upto_region 1 with (fail)
  refine wp_to (W := W) (by exact HW.out.symm) ?_
  rw [HN.out]
  go_wp2_with (first
    | (with_reducible refine wpList_built rfl 78 _ rfl (cellsT (newP i c e)) (by kernel_rfl) ?_)
    | (with_reducible refine wpList_ptst rfl _ _ rfl _ rfl (newP i c e) zeroP rfl K0.out ?_))
  have K5 := Lib.hid (K0.out.row (newP i c e))
  have K6 := Lib.hid (below_row KB.out (g := nb) (Nat.le_refl _) (cellsT (newP i c e)))
  exact bodyPost_ret (v := .agg (cellsT (newP i c e))) (results_cell_row rfl _ _ nb 78 (cellsT (newP i c e)) (0, 0) _ rfl K5.out rfl rfl infoSP) rfl ⟨rfl, HN.out ▸ K6.out⟩

set_option maxHeartbeats 1000000 in
theorem givenNo_w (i a m h d P : Int) (ad : Option Addr) (n cap : Nat) (w : World) (hP : P < 0) :
    Calls Tryz.prog 64 #[brv i a m h d, .slice ad n cap, .int .i64 P] w fun e w' => e = .returned (tv a m h d) ∧ Below w.heap.size w w' := by
  have kT := tbk_new 24 (w.alloc (.cells #[.int .u64 i, .int .i64 a, .int .i64 m, .int .i64 h, .int .i64 d] 26)) a m h d
  rw [size_box] at kT
  obtain ⟨k0, k1, k2, k3⟩ := kT.cells
  clear kT
  go_enter Tryz.func64, Tryz.ntmps64
  go_wp2_with fail
  exact bodyPost_ret (v := tv a m h d) (by simp [results, Tryz.results64, go_sem, k0, k1, k2, k3]) rfl ⟨rfl, bw_alloc (below_box w _) _⟩

theorem wrap_inc (n : Int) (h : inI64 n) : IntKind.i64.wrap (n + 1) = inc64 n := by
  unfold inI64 at h
  unfold inc64
  split
  · rename_i e; subst e; rfl
  · have h1 : -9223372036854775808 ≤ n + 1 := by omega
    have h2 : n + 1 ≤ 9223372036854775807 := by omega
    rw [IntKind.wrap_i64]; omega

set_option maxHeartbeats 1000000 in
theorem givenYes_w (i a m h d : Int) (ad : Option Addr) (cap k : Nat) (l : List Pt) (p : Pt) (A : Int) (w : World) (hr : PRow w ad l) (hp : l[k]? = some p) (ha : inI64 p.times.age) (hA : Hid (inc64 p.times.age = A)) :
    Calls Tryz.prog 64 #[brv i a m h d, .slice ad l.length cap, .int .i64 (k : Nat)] w fun e w' => e = .returned (tv A p.times.max p.times.hello p.times.delay) ∧ Below w.heap.size w w' := by
  obtain ⟨g, o, rfl, hg, hc⟩ := hr.at_ k p hp
  have hkl := (List.getElem?_eq_some_iff.1 hp).1
  obtain ⟨n, hn⟩ : ∃ n, l.length = n := ⟨_, rfl⟩
  rw [hn] at hkl ⊢
  have hw : IntKind.i64.wrap (p.times.age + 1) = A := by rw [wrap_inc _ ha]; exact hA.out
  have c10 : w.cell? ⟨g, o + k * 61 + 10, none⟩ = some (.int .i64 p.times.age) := hc 10 _ rfl
  have c11 : w.cell? ⟨g, o + k * 61 + 11, none⟩ = some (.int .i64 p.times.max) := hc 11 _ rfl
  have c12 : w.cell? ⟨g, o + k * 61 + 12, none⟩ = some (.int .i64 p.times.hello) := hc 12 _ rfl
  have c13 : w.cell? ⟨g, o + k * 61 + 13, none⟩ = some (.int .i64 p.times.delay) := hc 13 _ rfl
  have hki : (k : Int) < n := by omega
  have kT := (tbk_new 24 (w.alloc (.cells #[.int .u64 i, .int .i64 a, .int .i64 m, .int .i64 h, .int .i64 d] 26)) A p.times.max p.times.hello p.times.delay).next (below_box _ (.cells #[.int .i64 A, .int .i64 p.times.max, .int .i64 p.times.hello, .int .i64 p.times.delay] 24))
  rw [size_box] at kT
  obtain ⟨k0, k1, k2, k3⟩ := kT.cells
  clear hr hp ha hA hc hn kT
  go_enter Tryz.func64, Tryz.ntmps64
  go_wp2_with fail
  exact bodyPost_ret (v := tv A p.times.max p.times.hello p.times.delay) (by simp [results, Tryz.results64, go_sem, k0, k1, k2, k3]) rfl ⟨rfl, bw_alloc (bw_alloc (below_box w _) _) _⟩

/-! ### What layer 8 is told -/
theorem inf_ok {p : Pt} (h : PtOk p) : InfOk (infP p) := by
  refine ⟨h.id, h.cost, ?_, ?_⟩
  · unfold infP
    dsimp only
    split
    · exact h.source
    · exact ⟨by omega, by omega⟩
  · have hz : zeroV.ok := ⟨⟨by decide, by decide⟩, ⟨by decide, by decide⟩, ⟨by decide, by decide⟩, ⟨by decide, by decide⟩⟩
    have key : ∀ c : Prop, [Decidable c] → (if c then p.vec else zeroV).ok := fun c _ => by split; exact h.vec; exact hz
    exact key _
theorem infos_len (l : List Pt) : (infosP l).length = l.length := by unfold infosP; rw [List.length_map]
theorem infos_next {l : List Pt} {k : Nat} {p : Pt} (h : l[k]? = some p) : infosP (l.take (k + 1)) = infosP (l.take k) ++ [infP p] := by rw [take_nextP h]; unfold infosP; rw [List.map_append]; rfl
theorem own_below {w w' : World} {base : Nat} {e : TypeId} {size : Nat} {v : Value} {n : Nat} {xs : List Value} (h : w.ownsRow base e size v n xs) (hb : Below w.heap.size w w') : w'.ownsRow base e size v n xs :=
  ⟨h.1, by
    rcases h.2 with ⟨h0, h1⟩ | ⟨g, cap, cur, e1, hbg, hg, rest⟩
    · exact .inl ⟨h0, h1⟩
    · exact .inr ⟨g, cap, cur, e1, hbg, (hb.block g (Array.getElem?_eq_some_iff.1 hg).1).trans hg, rest⟩⟩
def KInv (l : List Pt) (n base : Nat) (w : World) (o i : Value) (wr : World) : Prop :=
  ∃ k : Nat, k ≤ n ∧ i = .int .i64 (k : Nat) ∧ wr.ownsRow base 175 7 o k (cellsP (infosP (l.take k))) ∧ Below w.heap.size w wr ∧ base ≤ wr.heap.size

set_option maxRecDepth 20000 in
set_option maxHeartbeats 2000000 in
theorem known_w (a : Option Addr) (cap : Nat) (l : List Pt) (w : World) (h : PRow w a l) (hok : ∀ p ∈ l, PtOk p) (hl : l.length ≤ 1000) :
    Calls Tryz.prog 63 #[.slice a l.length cap] w fun e w' => ∃ (a' : Option Addr) (cap' : Nat), e = .returned (.slice a' l.length cap') ∧ l.length ≤ cap' ∧ IRow w' a' (infosP l) ∧ Below w.heap.size w w' := by
  obtain ⟨n, hn⟩ : ∃ n, l.length = n := ⟨_, rfl⟩
  have HN := Lib.hid hn
  rw [hn] at hl ⊢
  have HA := Lib.hid h
  have HOK := Lib.hid (show ∀ x ∈ infosP l, InfOk x from fun x hx => by
    unfold infosP at hx
    obtain ⟨p, hp, rfl⟩ := List.mem_map.1 hx
    exact inf_ok (hok p hp))
  clear hn h hok
  go_enter Tryz.func63, Tryz.ntmps63
  go_wp2_with fail
  go_loopw [3, 9] (fun o i wr => KInv l n w.heap.size w o i wr) (fun _ i _ => n - (intOf i).toNat)
  case atStart => exact ⟨0, Nat.zero_le _, rfl, World.ownsRow_nil _ _ _ _, Below.refl _ _, Nat.le_refl _⟩
  case round =>
    obtain ⟨k, hk, rfl, hO, hG, hB⟩ := hrel
    obtain ⟨base, hbase⟩ : ∃ base, base = w.heap.size := ⟨_, rfl⟩
    by_cases hkl : k < n
    · obtain ⟨p, hx⟩ := at_some (l := l) (k := k) (by rw [HN.out]; exact hkl)
      obtain ⟨g, o, rfl, hgr, hcs⟩ := (HA.out.next hG).at_ k _ hx
      have hki : (k : Int) < n := by omega
      have HNX := Lib.hid (infos_next hx)
      have HO := Lib.hid hO
      have HG := Lib.hid hG
      have HCS := Lib.hid hcs
      rw [← hbase] at HO hB
      have HBA := Lib.hid hbase
      clear hx hO hG hbase hcs
      have kz := ptblk_new 78 wr zeroP
      have kp := Lib.hid (kz.row p)
      have KZ := Lib.hid kz
      clear kz
      go_upto_region 5 with (first
          | (with_reducible refine wpList_mid rfl _ rfl _ _ rfl p HCS.out ?_)
          | (refine wpList_ptst rfl _ _ rfl wr.heap.size rfl p zeroP rfl KZ.out ?_))
      obtain ⟨V, hV⟩ : ∃ V, (wr.alloc (.cells (cellsT zeroP) 78)).setRow wr.heap.size (cellsT p) = V := ⟨_, rfl⟩
      refine wp_to (W := V) (by exact hV.symm) ?_
      have BV := Lib.hid (show Below wr.heap.size wr V from hV ▸ below_row (below_box wr _) (Nat.le_refl _) _)
      rw [hV] at kp
      have KO := Lib.hid (own_below HO.out BV.out)
      have GV := Lib.hid (bw_trans HG.out BV.out)
      have hvs := BV.out.size
      have hzs := kp.out.lt
      clear hV KZ HCS HA
      have c_id := kp.out.c_id
      have c_cost := kp.out.c_cost
      have c_on := kp.out.c_on
      have c_source := kp.out.c_source
      have c_r := kp.out.c_vec_root
      have c_c := kp.out.c_vec_cost
      have c_b := kp.out.c_vec_bridge
      have c_p := kp.out.c_vec_port
      clear kp
      obtain ⟨i0, hi, hz0, hz1, hz2⟩ := info_parts infoP
      by_cases ho : p.on = true
      · rw [ho] at c_on
        by_cases hs : p.source = 3
        · have HI := Lib.hid (show infP p = ⟨p.id, p.cost, 3, p.vec⟩ by unfold infP; simp [ho, hs])
          rw [hs] at c_source
          clear ho hs
          go_wp2_with (at_builtin; refine wpList_append_lies _ (by rfl) _ _ _ (by rfl) base 175 i0 (iv 0 0 0 0 0 0 0) 7 56 Tryz.underlying135 hi hz0 hz1 hz2 rfl (by decide) _ k _ (by rfl) ((KO.out.alloc (.cells #[.int .u64 p.id, .int .u64 p.cost, .int .i64 3, .int .u64 p.vec.root, .int .u64 p.vec.cost, .int .u64 p.vec.bridge, .int .u64 p.vec.port] 175)).alloc (.cells #[.int .u64 p.id, .int .u64 p.cost, .int .i64 3, .int .u64 p.vec.root, .int .u64 p.vec.cost, .int .u64 p.vec.bridge, .int .u64 p.vec.port] 175)) ⟨V.heap.size + 1, 0, none⟩ 1 1 [.int .u64 p.id, .int .u64 p.cost, .int .i64 3, .int .u64 p.vec.root, .int .u64 p.vec.cost, .int .u64 p.vec.bridge, .int .u64 p.vec.port] (by rfl) rfl (World.news_of_block (heap_alloc2_new V (.cells #[.int .u64 p.id, .int .u64 p.cost, .int .i64 3, .int .u64 p.vec.root, .int .u64 p.vec.cost, .int .u64 p.vec.bridge, .int .u64 p.vec.port] 175) (.cells #[.int .u64 p.id, .int .u64 p.cost, .int .i64 3, .int .u64 p.vec.root, .int .u64 p.vec.cost, .int .u64 p.vec.bridge, .int .u64 p.vec.port] 175))) (fun u hu => by simp at hu; rcases hu with rfl | rfl | rfl | rfl | rfl | rfl | rfl <;> rfl) (by decide) (by unfold maxLen; omega) (by omega) (by simp; omega) _ rfl ?_; intro g1 cap1 y1 hown1 hgrow hat hlt; have BY := ((bw_alloc (GV.out.trans ((below_box V (.cells #[.int .u64 p.id, .int .u64 p.cost, .int .i64 3, .int .u64 p.vec.root, .int .u64 p.vec.cost, .int .u64 p.vec.bridge, .int .u64 p.vec.port] 175)).mono GV.out.size)) (.cells #[.int .u64 p.id, .int .u64 p.cost, .int .i64 3, .int .u64 p.vec.root, .int .u64 p.vec.cost, .int .u64 p.vec.bridge, .int .u64 p.vec.port] 175)).grown hgrow (by simp; have := GV.out.size; omega) (fun x hx => by rw [← HBA.out]; exact (KO.out.lt x hx).1)); have HBY := Lib.hid BY; have HOY := Lib.hid hown1; have zy : base ≤ y1.heap.size := by have := hgrow.size; simp at this; omega)
          refine ⟨⟨k + 1, by omega, by go_num, ?_, HBY.out, by rw [← HBA.out]; exact zy⟩, by simp [intOf]; omega⟩
          rw [← HBA.out, HNX.out, cellsP_add, show infP p = ⟨p.id, p.cost, 3, p.vec⟩ from HI.out]
          exact HOY.out
        · have HI := Lib.hid (show infP p = ⟨p.id, p.cost, p.source, zeroV⟩ by unfold infP; simp [ho, hs])
          have z : (p.source == 3) = false := beq_eq_false_iff_ne.2 hs
          clear ho hs
          go_wp2_with (at_builtin; refine wpList_append_lies _ (by rfl) _ _ _ (by rfl) base 175 i0 (iv 0 0 0 0 0 0 0) 7 56 Tryz.underlying135 hi hz0 hz1 hz2 rfl (by decide) _ k _ (by rfl) ((KO.out.alloc (.cells #[.int .u64 p.id, .int .u64 p.cost, .int .i64 p.source, .int .u64 0, .int .u64 0, .int .u64 0, .int .u64 0] 175)).alloc (.cells #[.int .u64 p.id, .int .u64 p.cost, .int .i64 p.source, .int .u64 0, .int .u64 0, .int .u64 0, .int .u64 0] 175)) ⟨V.heap.size + 1, 0, none⟩ 1 1 [.int .u64 p.id, .int .u64 p.cost, .int .i64 p.source, .int .u64 0, .int .u64 0, .int .u64 0, .int .u64 0] (by rfl) rfl (World.news_of_block (heap_alloc2_new V (.cells #[.int .u64 p.id, .int .u64 p.cost, .int .i64 p.source, .int .u64 0, .int .u64 0, .int .u64 0, .int .u64 0] 175) (.cells #[.int .u64 p.id, .int .u64 p.cost, .int .i64 p.source, .int .u64 0, .int .u64 0, .int .u64 0, .int .u64 0] 175))) (fun u hu => by simp at hu; rcases hu with rfl | rfl | rfl | rfl | rfl | rfl | rfl <;> rfl) (by decide) (by unfold maxLen; omega) (by omega) (by simp; omega) _ rfl ?_; intro g1 cap1 y1 hown1 hgrow hat hlt; have BY := ((bw_alloc (GV.out.trans ((below_box V (.cells #[.int .u64 p.id, .int .u64 p.cost, .int .i64 p.source, .int .u64 0, .int .u64 0, .int .u64 0, .int .u64 0] 175)).mono GV.out.size)) (.cells #[.int .u64 p.id, .int .u64 p.cost, .int .i64 p.source, .int .u64 0, .int .u64 0, .int .u64 0, .int .u64 0] 175)).grown hgrow (by simp; have := GV.out.size; omega) (fun x hx => by rw [← HBA.out]; exact (KO.out.lt x hx).1)); have HBY := Lib.hid BY; have HOY := Lib.hid hown1; have zy : base ≤ y1.heap.size := by have := hgrow.size; simp at this; omega)
          refine ⟨⟨k + 1, by omega, by go_num, ?_, HBY.out, by rw [← HBA.out]; exact zy⟩, by simp [intOf]; omega⟩
          rw [← HBA.out, HNX.out, cellsP_add, show infP p = ⟨p.id, p.cost, p.source, zeroV⟩ from HI.out]
          exact HOY.out
      · have ho' : p.on = false := by cases h : p.on; rfl; exact absurd h ho
        have HI := Lib.hid (show infP p = ⟨p.id, p.cost, 0, zeroV⟩ by unfold infP; simp [ho'])
        rw [ho'] at c_on
        clear ho ho'
        go_wp2_with (at_builtin; refine wpList_append_lies _ (by rfl) _ _ _ (by rfl) base 175 i0 (iv 0 0 0 0 0 0 0) 7 56 Tryz.underlying135 hi hz0 hz1 hz2 rfl (by decide) _ k _ (by rfl) ((KO.out.alloc (.cells #[.int .u64 p.id, .int .u64 p.cost, .int .i64 0, .int .u64 0, .int .u64 0, .int .u64 0, .int .u64 0] 175)).alloc (.cells #[.int .u64 p.id, .int .u64 p.cost, .int .i64 0, .int .u64 0, .int .u64 0, .int .u64 0, .int .u64 0] 175)) ⟨V.heap.size + 1, 0, none⟩ 1 1 [.int .u64 p.id, .int .u64 p.cost, .int .i64 0, .int .u64 0, .int .u64 0, .int .u64 0, .int .u64 0] (by rfl) rfl (World.news_of_block (heap_alloc2_new V (.cells #[.int .u64 p.id, .int .u64 p.cost, .int .i64 0, .int .u64 0, .int .u64 0, .int .u64 0, .int .u64 0] 175) (.cells #[.int .u64 p.id, .int .u64 p.cost, .int .i64 0, .int .u64 0, .int .u64 0, .int .u64 0, .int .u64 0] 175))) (fun u hu => by simp at hu; rcases hu with rfl | rfl | rfl | rfl | rfl | rfl | rfl <;> rfl) (by decide) (by unfold maxLen; omega) (by omega) (by simp; omega) _ rfl ?_; intro g1 cap1 y1 hown1 hgrow hat hlt; have BY := ((bw_alloc (GV.out.trans ((below_box V (.cells #[.int .u64 p.id, .int .u64 p.cost, .int .i64 0, .int .u64 0, .int .u64 0, .int .u64 0, .int .u64 0] 175)).mono GV.out.size)) (.cells #[.int .u64 p.id, .int .u64 p.cost, .int .i64 0, .int .u64 0, .int .u64 0, .int .u64 0, .int .u64 0] 175)).grown hgrow (by simp; have := GV.out.size; omega) (fun x hx => by rw [← HBA.out]; exact (KO.out.lt x hx).1)); have HBY := Lib.hid BY; have HOY := Lib.hid hown1; have zy : base ≤ y1.heap.size := by have := hgrow.size; simp at this; omega)
        refine ⟨⟨k + 1, by omega, by go_num, ?_, HBY.out, by rw [← HBA.out]; exact zy⟩, by simp [intOf]; omega⟩
        rw [← HBA.out, HNX.out, cellsP_add, show infP p = ⟨p.id, p.cost, 0, zeroV⟩ from HI.out]
        exact HOY.out
    · obtain rfl : k = n := by omega
      rw [take_allP HN.out] at hO
      obtain ⟨a', cap', hv, hc, hr⟩ := irow_owned (l := infosP l) (by rw [infos_len, HN.out]; exact hO) HOK.out
      rw [infos_len, HN.out] at hv hc
      subst hv
      have HR := Lib.hid hr
      have HG := Lib.hid hG
      clear hO hr hG
      go_wp2
      go_ret
      exact ⟨a', cap', rfl, hc, HR.out, HG.out⟩
end Go.Proofs.YtldobcfejldbiaaGreatDoor
