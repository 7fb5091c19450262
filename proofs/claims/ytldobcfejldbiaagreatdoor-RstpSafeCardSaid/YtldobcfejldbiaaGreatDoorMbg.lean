/-
  Layer 15: each, of ports and of setups; what is done to one port (printed by gen_rpa.py).
-/
import Derived.Test.YtldobcfejldbiaaGreatDoorMbb
import Derived.Test.YtldobcfejldbiaaGreatDoorMbo
import Derived.Test.YtldobcfejldbiaaGreatDoorMaa
namespace Go.Proofs.YtldobcfejldbiaaGreatDoor
set_option linter.unusedVariables false
set_option linter.unusedSimpArgs false
open Go.RowKit Vm Rm Bm Im

set_option maxRecDepth 100000 in
theorem wpList_prow1 {ops : Array Oper} {rest : List Oper} {op : Oper} {a : Act} {w : World} {Q : Exit → Act → World → Prop} (hgd : op.guard = none) (x : Operand) (ho : op.op = .buildSlice 71 1 #[(0, x)]) (p : Pt) (hx : a.eval x = .agg (cellsT p))
    (h : wpList Tryz.prog ops Q rest (a.put op.dst (.slice (some ⟨w.heap.size, 0, none⟩) 1 1)) (w.alloc (.cells (cellsT p) 78))) : wpList Tryz.prog ops Q (op :: rest) a w := by
  obtain ⟨i0, hi, hz0, hz1, hz2⟩ := info_parts info61
  refine wpList_buildSlice hgd 71 78 1 _ ho (cellsT p) i0 _ Tryz.underlying71 hi hz0 (by rw [hz1]; decide) (by rw [hz1]; decide) ?_ h
  simp only [List.map_toArray, List.map_cons, List.map_nil, hx, hz1]
  kernel_rfl
theorem pt_one (p : Pt) : ∀ u ∈ (cellsT p).toList, u.oneCell' = true := fun u hu => by
  have h1 := cellsT_one p
  rw [Array.all_eq_true_iff_forall_mem] at h1
  exact h1 u (by simpa using hu)
theorem own_keep {w w' : World} {base : Nat} {v : Value} {n : Nat} {T : TypeId} {size : Nat} {xs : List Value} (h : w.ownsRow base T size v n xs) (hb : Below w.heap.size w w') : w'.ownsRow base T size v n xs := by
  refine ⟨h.1, ?_⟩
  rcases h.2 with h0 | ⟨g, cap, cur, hv, hbg, hg, h3⟩
  · exact .inl h0
  · exact .inr ⟨g, cap, cur, hv, hbg, (hb.block g (Array.getElem?_eq_some_iff.1 hg).1).trans hg, h3⟩
def EaInv (m : Nat → List Pt) (n base : Nat) (w : World) (o i : Value) (wr : World) : Prop :=
  ∃ k : Nat, k ≤ n ∧ i = .int .i64 (k : Nat) ∧ wr.ownsRow base 78 61 o k (cells61 (m k)) ∧ Below w.heap.size w wr ∧ base ≤ wr.heap.size
theorem map_take_next {α : Type} {l : List α} {k : Nat} {p : α} (F : α → Pt) (h : l[k]? = some p) : (l.take (k + 1)).map F = (l.take k).map F ++ [F p] := by
  rw [List.take_add_one, h]
  simp
set_option maxRecDepth 20000 in
set_option maxHeartbeats 2000000 in
theorem eachP_w (f : Nat) (F : Pt → Pt) (he : ∀ (a : Array Value) (w : World), Sem.run Tryz.prog (callFunc f a) w = .ok (.enter f a) w) (a : Option Addr) (cap : Nat) (l : List Pt) (w : World) (h : PRow w a l) (hl : l.length ≤ 1000)
    (hc : ∀ (i : Nat) (p : Pt), l[i]? = some p → ∀ w' : World, Below w.heap.size w w' → Calls Tryz.prog f #[.agg (cellsT p)] w' fun e w'' => e = .returned (.agg (cellsT (F p))) ∧ Below w'.heap.size w' w'') :
    Calls Tryz.prog 90 #[.slice a l.length cap, .func (.func f) #[] #[]] w fun e w' => ∃ (a' : Option Addr) (cap' : Nat), e = .returned (.slice a' l.length cap') ∧ l.length ≤ cap' ∧ PRow w' a' (l.map F) ∧ Below w.heap.size w w' := by
  obtain ⟨n, hn⟩ : ∃ n, l.length = n := ⟨_, rfl⟩
  have HN := Lib.hid hn
  rw [hn] at hl ⊢
  have HA := Lib.hid h
  have HC := Lib.hid hc
  obtain ⟨base, hbase⟩ : ∃ base, w.heap.size = base := ⟨_, rfl⟩
  have HBA := Lib.hid hbase
  obtain ⟨i0, hi, hz0, hz1, hz2⟩ := info_parts info61
  clear hn h hc hbase
  go_enter Tryz.func90, Tryz.ntmps90
  go_wp2_with (at_make; refine wpList_make_own _ rfl _ _ 71 rfl base 78 i0 (.agg (cellsT zeroP)) 61 Tryz.underlying71 hi hz0 hz1 _ _ _ n rfl rfl (by omega) ?c1 ?c2 ?c3 ?_)
  case c1 => rw [hz2]; omega
  case c2 => unfold maxLen; omega
  case c3 => rw [HBA.out]; exact Nat.le_refl _
  intro w2 hown2 hgr2
  have B2 := Lib.hid (show Below w.heap.size w w2 from (Below.refl w.heap.size w).grown hgr2 (Nat.le_refl _) (by simp))
  have O2 := Lib.hid hown2
  clear hown2 hgr2
  go_wp2_with fail
  go_loopw [5, 13] (fun o i wr => EaInv (fun k => (l.take k).map F) n base w o i wr) (fun _ i _ => n - (intOf i).toNat)
  case atStart => exact ⟨0, Nat.zero_le _, rfl, O2.out, B2.out, by have := B2.out.size; have := HBA.out; omega⟩
  case round =>
    obtain ⟨k, hk, rfl, hO, hG, hB⟩ := hrel
    have HO := Lib.hid hO
    have HG := Lib.hid hG
    by_cases hkl : k < n
    · obtain ⟨p, hx⟩ := at_some (l := l) (k := k) (by rw [HN.out]; exact hkl)
      obtain ⟨g, o, rfl, hgr, hcs⟩ := (HA.out.next hG).at_ k _ hx
      have hki : (k : Int) < n := by omega
      have HNX := Lib.hid (map_take_next F hx)
      have HCS := Lib.hid hcs
      have h1 := Lib.hid (pt_one (F p))
      have CF := Lib.hid (HC.out k p hx)
      obtain ⟨V, nb, HV, HNB, kP, kB, kL⟩ := fillS_is wr p
      have HVW := Lib.hid (show Below wr.heap.size wr V by rw [HNB.out]; exact kB)
      have HP := Lib.hid kP
      clear hx hO hG hcs kP kB kL O2 B2
      go_upto_region 5 with (first
        | (with_reducible refine wpList_mid rfl _ rfl _ _ rfl p HCS.out ?_)
        | (refine wpList_ptst rfl _ _ rfl wr.heap.size rfl p zeroP rfl (ptblk_new _ wr zeroP) ?_))
      refine wp_to (W := V) (by exact HV.out.symm) ?_
      rw [HNB.out]
      have CV := Lib.hid (CF.out V (bw_trans HG.out HVW.out))
      have KO := Lib.hid (own_keep HO.out HVW.out)
      have KG := Lib.hid (bw_trans HG.out HVW.out)
      clear HCS CF HO HG
      go_wp2_with (with_reducible refine wpList_pt rfl _ rfl nb rfl p HP.out ?_)
      (with_reducible refine CV.out.mono ?_)
      rintro e y0 ⟨rfl, hb0⟩
      have KO2 := Lib.hid (own_keep KO.out hb0)
      have GY := Lib.hid (bw_trans KG.out hb0)
      have hys := hb0.size
      have hyv := HVW.out.size
      clear hb0
      go_wp2_with (first
          | (with_reducible refine wpList_prow1 rfl _ rfl (F p) rfl ?_)
          | (at_builtin; refine wpList_append_lies _ (by rfl) _ _ _ (by rfl) base 78 i0 (.agg (cellsT zeroP)) 61 296 Tryz.underlying71 hi hz0 hz1 hz2 (by exact cellsT_size zeroP) (by decide) _ k _ (by rfl) (KO2.out.alloc (.cells (cellsT (F p)) 78)) ⟨y0.heap.size, 0, none⟩ 1 1 (cellsT (F p)).toList (by rfl) (by exact cellsT_len (F p)) (World.news_of_block (heap_alloc_new y0 _)) h1.out (by decide) (by unfold maxLen; omega) (by omega) (by simp; omega) _ rfl ?_; intro g1 cap1 y1 hown1 hgrow hat hlt; have BY := (bw_alloc GY.out (.cells (cellsT (F p)) 78)).grown hgrow (by simp; have := GY.out.size; omega) (fun x hx => by rw [HBA.out]; exact (KO2.out.lt x hx).1); have HBY := Lib.hid BY; have HOY := Lib.hid hown1; have zy : base ≤ y1.heap.size := by have := hgrow.size; simp at this; omega))
      exact ⟨⟨k + 1, by omega, by go_num, by show World.ownsRow _ _ _ _ _ _ (cells61 ((l.take (k + 1)).map F)); rw [HNX.out, cells61_add]; exact HOY.out, HBY.out, zy⟩, by simp [intOf]; omega⟩
    · obtain rfl : k = n := by omega
      have hO1 := HO.out
      dsimp only at hO1
      rw [take_allP HN.out] at hO1
      have hlm : (l.map F).length = k := by rw [List.length_map]; exact HN.out
      rw [← hlm] at hO1
      obtain ⟨a', cap', hv, hc, hr, _⟩ := prow_owned hO1
      rw [hlm] at hv hc
      subst hv
      have HR := Lib.hid hr
      clear hO hr hG hO1 hlm
      go_wp2
      go_ret
      exact ⟨a', cap', rfl, hc, HR.out, HG.out⟩


/-! ### Setups -/
abbrev suv (i c : Int) (e : Bool) : Value := .agg #[.int .u64 i, .int .u64 c, .bool e]
def SuBlk (w : World) (b : Nat) (i c : Int) (e : Bool) : Prop := w.heap[b]? = some (.cells #[.int .u64 i, .int .u64 c, .bool e] 82 (0, 0))
structure SuRow (w : World) (a : Option Addr) (l : List Su) : Prop where
  at_ : ∀ j s, l[j]? = some s → ∃ g o : Nat, a = some ⟨g, o, none⟩ ∧ g < w.heap.size ∧ w.rangeAt g (o + j * 3) [.int .u64 s.id, .int .u64 s.cost, .bool s.edge]
theorem SuRow.next {w w' : World} {a : Option Addr} {l : List Su} (h : SuRow w a l) (hb : Below w.heap.size w w') : SuRow w' a l :=
  ⟨fun j p hp => by obtain ⟨g, o, e, hg, k⟩ := h.at_ j p hp; exact ⟨g, o, e, Nat.lt_of_lt_of_le hg hb.size, range_next k hg hb⟩⟩
theorem infoSu : (Tryz.prog.info? 82).map (·.size) = some 3 := by kernel_rfl
set_option maxRecDepth 100000 in
theorem wpList_su {ops : Array Oper} {rest : List Oper} {op : Oper} {a : Act} {w : World} {Q : Exit → Act → World → Prop} (hgd : op.guard = none) (x : Operand) (ho : op.op = .load 82 x)
    (b o : Nat) (hx : a.eval x = .pointer (some ⟨b, o, none⟩)) (i c : Int) (e : Bool) (hc : w.rangeAt b o [.int .u64 i, .int .u64 c, .bool e])
    (h : wpList Tryz.prog ops Q rest (a.put op.dst (suv i c e)) w) : wpList Tryz.prog ops Q (op :: rest) a w :=
  wpList_load_mid hgd 82 x ho b o hx [.int .u64 i, .int .u64 c, .bool e] _ hc rfl rfl infoSu h
set_option maxRecDepth 100000 in
theorem wpList_sub {ops : Array Oper} {rest : List Oper} {op : Oper} {a : Act} {w : World} {Q : Exit → Act → World → Prop} (hgd : op.guard = none) (x : Operand) (ho : op.op = .load 82 x)
    (b : Nat) (hx : a.eval x = .pointer (some ⟨b, 0, none⟩)) (i c : Int) (e : Bool) (hc : SuBlk w b i c e)
    (h : wpList Tryz.prog ops Q rest (a.put op.dst (suv i c e)) w) : wpList Tryz.prog ops Q (op :: rest) a w :=
  wpList_load_row hgd 82 x ho b hx 82 #[.int .u64 i, .int .u64 c, .bool e] (0, 0) _ hc rfl rfl infoSu h
set_option maxRecDepth 100000 in
theorem wpList_sust {ops : Array Oper} {rest : List Oper} {op : Oper} {a : Act} {w : World} {Q : Exit → Act → World → Prop} (hgd : op.guard = none) (x y : Operand) (ho : op.op = .store 82 x y)
    (b : Nat) (hx : a.eval x = .pointer (some ⟨b, 0, none⟩)) (i c : Int) (e : Bool) (hy : a.eval y = suv i c e) (hc : SuBlk w b 0 0 false)
    (h : wpList Tryz.prog ops Q rest (a.put op.dst undef) (w.setRow b #[.int .u64 i, .int .u64 c, .bool e])) : wpList Tryz.prog ops Q (op :: rest) a w :=
  wpList_store_row hgd 82 x y ho b #[.int .u64 i, .int .u64 c, .bool e] hx hy 82 _ hc infoSu rfl (by simp [Value.oneCell']) h

set_option maxRecDepth 20000 in
set_option maxHeartbeats 2000000 in
theorem eachS_w (f : Nat) (F : Su → Pt) (he : ∀ (a : Array Value) (w : World), Sem.run Tryz.prog (callFunc f a) w = .ok (.enter f a) w) (a : Option Addr) (cap : Nat) (l : List Su) (w : World) (h : SuRow w a l) (hl : l.length ≤ 1000)
    (hc : ∀ (i : Nat) (p : Su), l[i]? = some p → ∀ w' : World, Below w.heap.size w w' → Calls Tryz.prog f #[suv p.id p.cost p.edge] w' fun e w'' => e = .returned (.agg (cellsT (F p))) ∧ Below w'.heap.size w' w'') :
    Calls Tryz.prog 28 #[.slice a l.length cap, .func (.func f) #[] #[]] w fun e w' => ∃ (a' : Option Addr) (cap' : Nat), e = .returned (.slice a' l.length cap') ∧ l.length ≤ cap' ∧ PRow w' a' (l.map F) ∧ Below w.heap.size w w' := by
  obtain ⟨n, hn⟩ : ∃ n, l.length = n := ⟨_, rfl⟩
  have HN := Lib.hid hn
  rw [hn] at hl ⊢
  have HA := Lib.hid h
  have HC := Lib.hid hc
  obtain ⟨base, hbase⟩ : ∃ base, w.heap.size = base := ⟨_, rfl⟩
  have HBA := Lib.hid hbase
  obtain ⟨i0, hi, hz0, hz1, hz2⟩ := info_parts info61
  clear hn h hc hbase
  go_enter Tryz.func28, Tryz.ntmps28
  go_wp2_with (at_make; refine wpList_make_own _ rfl _ _ 71 rfl base 78 i0 (.agg (cellsT zeroP)) 61 Tryz.underlying71 hi hz0 hz1 _ _ _ n rfl rfl (by omega) ?c1 ?c2 ?c3 ?_)
  case c1 => rw [hz2]; omega
  case c2 => unfold maxLen; omega
  case c3 => rw [HBA.out]; exact Nat.le_refl _
  intro w2 hown2 hgr2
  have B2 := Lib.hid (show Below w.heap.size w w2 from (Below.refl w.heap.size w).grown hgr2 (Nat.le_refl _) (by simp))
  have O2 := Lib.hid hown2
  clear hown2 hgr2
  go_wp2_with fail
  go_loopw [5, 13] (fun o i wr => EaInv (fun k => (l.take k).map F) n base w o i wr) (fun _ i _ => n - (intOf i).toNat)
  case atStart => exact ⟨0, Nat.zero_le _, rfl, O2.out, B2.out, by have := B2.out.size; have := HBA.out; omega⟩
  case round =>
    obtain ⟨k, hk, rfl, hO, hG, hB⟩ := hrel
    have HO := Lib.hid hO
    have HG := Lib.hid hG
    by_cases hkl : k < n
    · obtain ⟨p, hx⟩ := at_some (l := l) (k := k) (by rw [HN.out]; exact hkl)
      obtain ⟨g, o, rfl, hgr, hcs⟩ := (HA.out.next hG).at_ k _ hx
      obtain ⟨pi, pc, pe⟩ := p
      have hki : (k : Int) < n := by omega
      have HNX := Lib.hid (map_take_next F hx)
      have HCS := Lib.hid hcs
      have h1 := Lib.hid (pt_one (F ⟨pi, pc, pe⟩))
      have CF := Lib.hid (HC.out k ⟨pi, pc, pe⟩ hx)
      obtain ⟨V, hV⟩ : ∃ V, (wr.alloc (.cells #[.int .u64 0, .int .u64 0, .bool false] 82)).setRow wr.heap.size #[.int .u64 pi, .int .u64 pc, .bool pe] = V := ⟨_, rfl⟩
      have kP : SuBlk V wr.heap.size pi pc pe := by rw [← hV]; exact setRow_heap _ _ _ _ _ _ (heap_alloc_new wr _)
      have HVW := Lib.hid (show Below wr.heap.size wr V by rw [← hV]; exact below_row (below_box wr _) (Nat.le_refl _) _)
      have HV := Lib.hid hV
      have HP := Lib.hid kP
      clear hx hO hG hcs kP hV O2 B2
      go_upto_region 5 with (first
        | (with_reducible refine wpList_su rfl _ rfl _ _ rfl pi pc pe HCS.out ?_)
        | (refine wpList_sust rfl _ _ rfl wr.heap.size rfl pi pc pe rfl (heap_alloc_new wr _) ?_))
      refine wp_to (W := V) (by exact HV.out.symm) ?_
      have CV := Lib.hid (CF.out V (bw_trans HG.out HVW.out))
      have KO := Lib.hid (own_keep HO.out HVW.out)
      have KG := Lib.hid (bw_trans HG.out HVW.out)
      clear HCS CF HO HG
      go_wp2_with (with_reducible refine wpList_sub rfl _ rfl wr.heap.size rfl pi pc pe HP.out ?_)
      (with_reducible refine CV.out.mono ?_)
      rintro e y0 ⟨rfl, hb0⟩
      have KO2 := Lib.hid (own_keep KO.out hb0)
      have GY := Lib.hid (bw_trans KG.out hb0)
      have hys := hb0.size
      have hyv := HVW.out.size
      clear hb0
      go_wp2_with (first
          | (with_reducible refine wpList_prow1 rfl _ rfl (F ⟨pi, pc, pe⟩) rfl ?_)
          | (at_builtin; refine wpList_append_lies _ (by rfl) _ _ _ (by rfl) base 78 i0 (.agg (cellsT zeroP)) 61 296 Tryz.underlying71 hi hz0 hz1 hz2 (by exact cellsT_size zeroP) (by decide) _ k _ (by rfl) (KO2.out.alloc (.cells (cellsT (F ⟨pi, pc, pe⟩)) 78)) ⟨y0.heap.size, 0, none⟩ 1 1 (cellsT (F ⟨pi, pc, pe⟩)).toList (by rfl) (by exact cellsT_len (F ⟨pi, pc, pe⟩)) (World.news_of_block (heap_alloc_new y0 _)) h1.out (by decide) (by unfold maxLen; omega) (by omega) (by simp; omega) _ rfl ?_; intro g1 cap1 y1 hown1 hgrow hat hlt; have BY := (bw_alloc GY.out (.cells (cellsT (F ⟨pi, pc, pe⟩)) 78)).grown hgrow (by simp; have := GY.out.size; omega) (fun x hx => by rw [HBA.out]; exact (KO2.out.lt x hx).1); have HBY := Lib.hid BY; have HOY := Lib.hid hown1; have zy : base ≤ y1.heap.size := by have := hgrow.size; simp at this; omega))
      exact ⟨⟨k + 1, by omega, by go_num, by show World.ownsRow _ _ _ _ _ _ (cells61 ((l.take (k + 1)).map F)); rw [HNX.out, cells61_add]; exact HOY.out, HBY.out, zy⟩, by simp [intOf]; omega⟩
    · obtain rfl : k = n := by omega
      have hO1 := HO.out
      dsimp only at hO1
      rw [show l.take k = l by rw [← HN.out, List.take_length]] at hO1
      have hlm : (l.map F).length = k := by rw [List.length_map]; exact HN.out
      rw [← hlm] at hO1
      obtain ⟨a', cap', hv, hc, hr, _⟩ := prow_owned hO1
      rw [hlm] at hv hc
      subst hv
      have HR := Lib.hid hr
      clear hO hr hG hO1 hlm
      go_wp2
      go_ret
      exact ⟨a', cap', rfl, hc, HR.out, HG.out⟩

end Go.Proofs.YtldobcfejldbiaaGreatDoor
