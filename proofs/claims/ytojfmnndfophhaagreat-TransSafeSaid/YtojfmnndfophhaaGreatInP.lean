/-
  Layer 11: New; given times; what layer 8 is told of the ports.
-/
import Derived.Test.YtojfmnndfophhaaGreatInO
namespace Go.Proofs.YtojfmnndfophhaaGreat
set_option linter.unusedVariables false
set_option linter.unusedSimpArgs false
open Go.RowKit Vm Rm Bm Im

theorem wpList_built {P : Program} {ops : Array Oper} {rest : List Oper} {op : Oper} {a : Act} {w : World} {Q : Exit → Act → World → Prop} (hgd : op.guard = none) (t : TypeId) (parts : Array (Nat × Operand)) (ho : op.op = .build t parts)
    (cells : Array Value) (hf : P.built t (parts.map fun (i, x) => (i, a.eval x)).toList = some cells) (h : wpList P ops Q rest (a.put op.dst (.agg cells)) w) : wpList P ops Q (op :: rest) a w :=
  wpList_plain hgd fun K hK => by
    refine wp_build t parts ho (by rw [hf]; rfl) ?_
    rw [hf]
    exact hK _ _ h

set_option maxRecDepth 100000 in
set_option maxHeartbeats 1000000 in
theorem new_w (i c : Int) (e : Bool) (X : Pt) (w : World) (hX : Hid (newP i c e = X)) :
    Calls Tryz.prog 17 #[.int .u64 i, .int .u64 c, .bool e] w fun e w' => e = .returned (.agg (cellsT X)) ∧ Below w.heap.size w w' := by
  obtain ⟨W, nb, HW, HN, k0, kB⟩ := oneP_is w zeroP
  have K0 := Lib.hid k0
  have KB := Lib.hid kB
  clear k0 kB
  rw [← hX.out]
  clear hX
  go_enter Tryz.func17, Tryz.ntmps17
  go_upto_region 1 with (fail)
  refine wp_to (W := W) (by exact HW.out.symm) ?_
  rw [HN.out]
  go_wp2_with (first
    | (with_reducible refine wpList_built rfl 34 _ rfl (cellsT (newP i c e)) (by kernel_rfl) ?_)
    | (with_reducible refine wpList_ptst rfl _ _ rfl _ rfl (newP i c e) zeroP rfl K0.out ?_))
  have K5 := Lib.hid (K0.out.row (newP i c e))
  have K6 := Lib.hid (below_row KB.out (g := nb) (Nat.le_refl _) (cellsT (newP i c e)))
  exact bodyPost_ret (v := .agg (cellsT (newP i c e))) (results_cell_row rfl _ _ nb 34 (cellsT (newP i c e)) (0, 0) _ rfl K5.out rfl rfl infoSP) rfl ⟨rfl, HN.out ▸ K6.out⟩

set_option maxHeartbeats 1000000 in
theorem givenNo_w (i a m h d P : Int) (ad : Option Addr) (n cap : Nat) (w : World) (hP : P < 0) :
    Calls Tryz.prog 31 #[brv i a m h d, .slice ad n cap, .int .i64 P] w fun e w' => e = .returned (tv a m h d) ∧ Below w.heap.size w w' := by
  have kT := tbk_new 24 (w.alloc (.cells #[.int .u64 i, .int .i64 a, .int .i64 m, .int .i64 h, .int .i64 d] 26)) a m h d
  rw [size_box] at kT
  obtain ⟨k0, k1, k2, k3⟩ := kT.cells
  clear kT
  go_enter Tryz.func31, Tryz.ntmps31
  go_wp2_with fail
  exact bodyPost_ret (v := tv a m h d) (by simp [results, Tryz.results31, go_sem, k0, k1, k2, k3]) rfl ⟨rfl, bw_alloc (below_box w _) _⟩

theorem wrap_inc (n : Int) (h : inI64 n) : IntKind.i64.wrap (n + 1) = inc64 n := by
  unfold inI64 at h
  unfold inc64
  split
  · rename_i e; subst e; rfl
  · have h1 : -9223372036854775808 ≤ n + 1 := by omega
    have h2 : n + 1 ≤ 9223372036854775807 := by omega
    rw [IntKind.wrap_i64]; omega

set_option maxHeartbeats 1000000 in
theorem givenYes_w (i a m h d : Int) (ad : Option Addr) (cap k : Nat) (l : List Pt) (p : Pt) (A : Int) (w : World) (hr : PRow w ad l) (hp : l[k]? = some p) (ha : inI64 p.times.age) (hA : Hid (inc64 p.times.age = A)) :
    Calls Tryz.prog 31 #[brv i a m h d, .slice ad l.length cap, .int .i64 (k : Nat)] w fun e w' => e = .returned (tv A p.times.max p.times.hello p.times.delay) ∧ Below w.heap.size w w' := by
  obtain ⟨g, o, rfl, hg, hc⟩ := hr.at_ k p hp
  have hkl := (List.getElem?_eq_some_iff.1 hp).1
  obtain ⟨n, hn⟩ : ∃ n, l.length = n := ⟨_, rfl⟩
  rw [hn] at hkl ⊢
  have hw : IntKind.i64.wrap (p.times.age + 1) = A := by rw [wrap_inc _ ha]; exact hA.out
  have c10 : w.cell? ⟨g, o + k * 61 + 10, none⟩ = some (.int .i64 p.times.age) := hc 10 _ rfl
  have c11 : w.cell? ⟨g, o + k * 61 + 11, none⟩ = some (.int .i64 p.times.max) := hc 11 _ rfl
  have c12 : w.cell? ⟨g, o + k * 61 + 12, none⟩ = some (.int .i64 p.times.hello) := hc 12 _ rfl
  have c13 : w.cell? ⟨g, o + k * 61 + 13, none⟩ = some (.int .i64 p.times.delay) := hc 13 _ rfl
  have hki : (k : Int) < n := by omega
  have kT := (tbk_new 24 (w.alloc (.cells #[.int .u64 i, .int .i64 a, .int .i64 m, .int .i64 h, .int .i64 d] 26)) A p.times.max p.times.hello p.times.delay).next (below_box _ (.cells #[.int .i64 A, .int .i64 p.times.max, .int .i64 p.times.hello, .int .i64 p.times.delay] 24))
  rw [size_box] at kT
  obtain ⟨k0, k1, k2, k3⟩ := kT.cells
  clear hr hp ha hA hc hn kT
  go_enter Tryz.func31, Tryz.ntmps31
  go_wp2_with fail
  exact bodyPost_ret (v := tv A p.times.max p.times.hello p.times.delay) (by simp [results, Tryz.results31, go_sem, k0, k1, k2, k3]) rfl ⟨rfl, bw_alloc (bw_alloc (below_box w _) _) _⟩

/-! ### What layer 8 is told -/
theorem inf_ok {p : Pt} (h : PtOk p) : InfOk (infP p) := by
  refine ⟨h.id, h.cost, ?_, ?_⟩
  · unfold infP
    dsimp only
    split
    · exact h.source
    · exact ⟨by omega, by omega⟩
  · have hz : zeroV.ok := ⟨⟨by decide, by decide⟩, ⟨by decide, by decide⟩, ⟨by decide, by decide⟩, ⟨by decide, by decide⟩⟩
    have key : ∀ c : Prop, [Decidable c] → (if c then p.vec else zeroV).ok := fun c _ => by split; exact h.vec; exact hz
    exact key _
theorem infos_len (l : List Pt) : (infosP l).length = l.length := by unfold infosP; rw [List.length_map]
theorem infos_take (l : List Pt) (k : Nat) : (infosP l).take k = infosP (l.take k) := by unfold infosP; rw [List.map_take]
theorem infos_next {l : List Pt} {k : Nat} {p : Pt} (h : l[k]? = some p) : infosP (l.take (k + 1)) = infosP (l.take k) ++ [infP p] := by rw [take_nextP h]; unfold infosP; rw [List.map_append]; rfl
theorem own_below {w w' : World} {base : Nat} {e : TypeId} {size : Nat} {v : Value} {n : Nat} {xs : List Value} (h : w.ownsRow base e size v n xs) (hb : Below w.heap.size w w') : w'.ownsRow base e size v n xs :=
  ⟨h.1, by
    rcases h.2 with ⟨h0, h1⟩ | ⟨g, cap, cur, e1, hbg, hg, rest⟩
    · exact .inl ⟨h0, h1⟩
    · exact .inr ⟨g, cap, cur, e1, hbg, (hb.block g (Array.getElem?_eq_some_iff.1 hg).1).trans hg, rest⟩⟩
def KInv (l : List Pt) (n base : Nat) (w : World) (o i : Value) (wr : World) : Prop :=
  ∃ k : Nat, k ≤ n ∧ i = .int .i64 (k : Nat) ∧ wr.ownsRow base 81 7 o k (cellsP (infosP (l.take k))) ∧ Below w.heap.size w wr ∧ base ≤ wr.heap.size

set_option maxRecDepth 20000 in
set_option maxHeartbeats 2000000 in
theorem known_w (a : Option Addr) (cap : Nat) (l : List Pt) (w : World) (h : PRow w a l) (hok : ∀ p ∈ l, PtOk p) (hl : l.length ≤ 1000) :
    Calls Tryz.prog 30 #[.slice a l.length cap] w fun e w' => ∃ (a' : Option Addr) (cap' : Nat), e = .returned (.slice a' l.length cap') ∧ l.length ≤ cap' ∧ IRow w' a' (infosP l) ∧ Below w.heap.size w w' := by
  obtain ⟨n, hn⟩ : ∃ n, l.length = n := ⟨_, rfl⟩
  have HN := Lib.hid hn
  rw [hn] at hl ⊢
  have HA := Lib.hid h
  have HOK := Lib.hid (show ∀ x ∈ infosP l, InfOk x from fun x hx => by
    unfold infosP at hx
    obtain ⟨p, hp, rfl⟩ := List.mem_map.1 hx
    exact inf_ok (hok p hp))
  clear hn h hok
  go_enter Tryz.func30, Tryz.ntmps30
  go_wp2_with fail
  go_loopw [3, 9] (fun o i wr => KInv l n w.heap.size w o i wr) (fun _ i _ => n - (intOf i).toNat)
  case atStart => exact ⟨0, Nat.zero_le _, rfl, World.ownsRow_nil _ _ _ _, Below.refl _ _, Nat.le_refl _⟩
  case round =>
    obtain ⟨k, hk, rfl, hO, hG, hB⟩ := hrel
    obtain ⟨base, hbase⟩ : ∃ base, base = w.heap.size := ⟨_, rfl⟩
    by_cases hkl : k < n
    · obtain ⟨p, hx⟩ := at_some (l := l) (k := k) (by rw [HN.out]; exact hkl)
      obtain ⟨g, o, rfl, hgr, hcs⟩ := (HA.out.next hG).at_ k _ hx
      have hki : (k : Int) < n := by omega
      have HNX := Lib.hid (infos_next hx)
      have HO := Lib.hid hO
      have HG := Lib.hid hG
      have HCS := Lib.hid hcs
      rw [← hbase] at HO hB
      have HBA := Lib.hid hbase
      clear hx hO hG hbase hcs
      have kz := ptblk_new 34 wr zeroP
      have kp := Lib.hid (kz.row p)
      have KZ := Lib.hid kz
      clear kz
      go_upto_region 5 with (first
          | (with_reducible refine wpList_mid rfl _ rfl _ _ rfl p HCS.out ?_)
          | (refine wpList_ptst rfl _ _ rfl wr.heap.size rfl p zeroP rfl KZ.out ?_))
      obtain ⟨V, hV⟩ : ∃ V, (wr.alloc (.cells (cellsT zeroP) 34)).setRow wr.heap.size (cellsT p) = V := ⟨_, rfl⟩
      refine wp_to (W := V) (by exact hV.symm) ?_
      have BV := Lib.hid (show Below wr.heap.size wr V from hV ▸ below_row (below_box wr _) (Nat.le_refl _) _)
      rw [hV] at kp
      have KO := Lib.hid (own_below HO.out BV.out)
      have GV := Lib.hid (bw_trans HG.out BV.out)
      have hvs := BV.out.size
      have hzs := kp.out.lt
      clear hV KZ HCS HA
      have c_id := kp.out.c_id
      have c_cost := kp.out.c_cost
      have c_on := kp.out.c_on
      have c_source := kp.out.c_source
      have c_r := kp.out.c_vec_root
      have c_c := kp.out.c_vec_cost
      have c_b := kp.out.c_vec_bridge
      have c_p := kp.out.c_vec_port
      clear kp
      obtain ⟨i0, hi, hz0, hz1, hz2⟩ := info_parts infoP
      by_cases ho : p.on = true
      · rw [ho] at c_on
        by_cases hs : p.source = 3
        · have HI := Lib.hid (show infP p = ⟨p.id, p.cost, 3, p.vec⟩ by unfold infP; simp [ho, hs])
          rw [hs] at c_source
          clear ho hs
          go_wp2_with (at_builtin; refine wpList_append_lies _ (by rfl) _ _ _ (by rfl) base 81 i0 (iv 0 0 0 0 0 0 0) 7 56 Tryz.underlying68 hi hz0 hz1 hz2 rfl (by decide) _ k _ (by rfl) ((KO.out.alloc (.cells #[.int .u64 p.id, .int .u64 p.cost, .int .i64 3, .int .u64 p.vec.root, .int .u64 p.vec.cost, .int .u64 p.vec.bridge, .int .u64 p.vec.port] 81)).alloc (.cells #[.int .u64 p.id, .int .u64 p.cost, .int .i64 3, .int .u64 p.vec.root, .int .u64 p.vec.cost, .int .u64 p.vec.bridge, .int .u64 p.vec.port] 81)) ⟨V.heap.size + 1, 0, none⟩ 1 1 [.int .u64 p.id, .int .u64 p.cost, .int .i64 3, .int .u64 p.vec.root, .int .u64 p.vec.cost, .int .u64 p.vec.bridge, .int .u64 p.vec.port] (by rfl) rfl (World.news_of_block (heap_alloc2_new V (.cells #[.int .u64 p.id, .int .u64 p.cost, .int .i64 3, .int .u64 p.vec.root, .int .u64 p.vec.cost, .int .u64 p.vec.bridge, .int .u64 p.vec.port] 81) (.cells #[.int .u64 p.id, .int .u64 p.cost, .int .i64 3, .int .u64 p.vec.root, .int .u64 p.vec.cost, .int .u64 p.vec.bridge, .int .u64 p.vec.port] 81))) (fun u hu => by simp at hu; rcases hu with rfl | rfl | rfl | rfl | rfl | rfl | rfl <;> rfl) (by decide) (by unfold maxLen; omega) (by omega) (by simp; omega) _ rfl ?_; intro g1 cap1 y1 hown1 hgrow hat hlt; have BY := ((bw_alloc (GV.out.trans ((below_box V (.cells #[.int .u64 p.id, .int .u64 p.cost, .int .i64 3, .int .u64 p.vec.root, .int .u64 p.vec.cost, .int .u64 p.vec.bridge, .int .u64 p.vec.port] 81)).mono GV.out.size)) (.cells #[.int .u64 p.id, .int .u64 p.cost, .int .i64 3, .int .u64 p.vec.root, .int .u64 p.vec.cost, .int .u64 p.vec.bridge, .int .u64 p.vec.port] 81)).grown hgrow (by simp; have := GV.out.size; omega) (fun x hx => by rw [← HBA.out]; exact (KO.out.lt x hx).1)); have HBY := Lib.hid BY; have HOY := Lib.hid hown1; have zy : base ≤ y1.heap.size := by have := hgrow.size; simp at this; omega)
          refine ⟨⟨k + 1, by omega, by go_num, ?_, HBY.out, by rw [← HBA.out]; exact zy⟩, by simp [intOf]; omega⟩
          rw [← HBA.out, HNX.out, cellsP_add, show infP p = ⟨p.id, p.cost, 3, p.vec⟩ from HI.out]
          exact HOY.out
        · have HI := Lib.hid (show infP p = ⟨p.id, p.cost, p.source, zeroV⟩ by unfold infP; simp [ho, hs])
          have z : (p.source == 3) = false := beq_eq_false_iff_ne.2 hs
          clear ho hs
          go_wp2_with (at_builtin; refine wpList_append_lies _ (by rfl) _ _ _ (by rfl) base 81 i0 (iv 0 0 0 0 0 0 0) 7 56 Tryz.underlying68 hi hz0 hz1 hz2 rfl (by decide) _ k _ (by rfl) ((KO.out.alloc (.cells #[.int .u64 p.id, .int .u64 p.cost, .int .i64 p.source, .int .u64 0, .int .u64 0, .int .u64 0, .int .u64 0] 81)).alloc (.cells #[.int .u64 p.id, .int .u64 p.cost, .int .i64 p.source, .int .u64 0, .int .u64 0, .int .u64 0, .int .u64 0] 81)) ⟨V.heap.size + 1, 0, none⟩ 1 1 [.int .u64 p.id, .int .u64 p.cost, .int .i64 p.source, .int .u64 0, .int .u64 0, .int .u64 0, .int .u64 0] (by rfl) rfl (World.news_of_block (heap_alloc2_new V (.cells #[.int .u64 p.id, .int .u64 p.cost, .int .i64 p.source, .int .u64 0, .int .u64 0, .int .u64 0, .int .u64 0] 81) (.cells #[.int .u64 p.id, .int .u64 p.cost, .int .i64 p.source, .int .u64 0, .int .u64 0, .int .u64 0, .int .u64 0] 81))) (fun u hu => by simp at hu; rcases hu with rfl | rfl | rfl | rfl | rfl | rfl | rfl <;> rfl) (by decide) (by unfold maxLen; omega) (by omega) (by simp; omega) _ rfl ?_; intro g1 cap1 y1 hown1 hgrow hat hlt; have BY := ((bw_alloc (GV.out.trans ((below_box V (.cells #[.int .u64 p.id, .int .u64 p.cost, .int .i64 p.source, .int .u64 0, .int .u64 0, .int .u64 0, .int .u64 0] 81)).mono GV.out.size)) (.cells #[.int .u64 p.id, .int .u64 p.cost, .int .i64 p.source, .int .u64 0, .int .u64 0, .int .u64 0, .int .u64 0] 81)).grown hgrow (by simp; have := GV.out.size; omega) (fun x hx => by rw [← HBA.out]; exact (KO.out.lt x hx).1)); have HBY := Lib.hid BY; have HOY := Lib.hid hown1; have zy : base ≤ y1.heap.size := by have := hgrow.size; simp at this; omega)
          refine ⟨⟨k + 1, by omega, by go_num, ?_, HBY.out, by rw [← HBA.out]; exact zy⟩, by simp [intOf]; omega⟩
          rw [← HBA.out, HNX.out, cellsP_add, show infP p = ⟨p.id, p.cost, p.source, zeroV⟩ from HI.out]
          exact HOY.out
      · have ho' : p.on = false := by cases h : p.on; rfl; exact absurd h ho
        have HI := Lib.hid (show infP p = ⟨p.id, p.cost, 0, zeroV⟩ by unfold infP; simp [ho'])
        rw [ho'] at c_on
        clear ho ho'
        go_wp2_with (at_builtin; refine wpList_append_lies _ (by rfl) _ _ _ (by rfl) base 81 i0 (iv 0 0 0 0 0 0 0) 7 56 Tryz.underlying68 hi hz0 hz1 hz2 rfl (by decide) _ k _ (by rfl) ((KO.out.alloc (.cells #[.int .u64 p.id, .int .u64 p.cost, .int .i64 0, .int .u64 0, .int .u64 0, .int .u64 0, .int .u64 0] 81)).alloc (.cells #[.int .u64 p.id, .int .u64 p.cost, .int .i64 0, .int .u64 0, .int .u64 0, .int .u64 0, .int .u64 0] 81)) ⟨V.heap.size + 1, 0, none⟩ 1 1 [.int .u64 p.id, .int .u64 p.cost, .int .i64 0, .int .u64 0, .int .u64 0, .int .u64 0, .int .u64 0] (by rfl) rfl (World.news_of_block (heap_alloc2_new V (.cells #[.int .u64 p.id, .int .u64 p.cost, .int .i64 0, .int .u64 0, .int .u64 0, .int .u64 0, .int .u64 0] 81) (.cells #[.int .u64 p.id, .int .u64 p.cost, .int .i64 0, .int .u64 0, .int .u64 0, .int .u64 0, .int .u64 0] 81))) (fun u hu => by simp at hu; rcases hu with rfl | rfl | rfl | rfl | rfl | rfl | rfl <;> rfl) (by decide) (by unfold maxLen; omega) (by omega) (by simp; omega) _ rfl ?_; intro g1 cap1 y1 hown1 hgrow hat hlt; have BY := ((bw_alloc (GV.out.trans ((below_box V (.cells #[.int .u64 p.id, .int .u64 p.cost, .int .i64 0, .int .u64 0, .int .u64 0, .int .u64 0, .int .u64 0] 81)).mono GV.out.size)) (.cells #[.int .u64 p.id, .int .u64 p.cost, .int .i64 0, .int .u64 0, .int .u64 0, .int .u64 0, .int .u64 0] 81)).grown hgrow (by simp; have := GV.out.size; omega) (fun x hx => by rw [← HBA.out]; exact (KO.out.lt x hx).1)); have HBY := Lib.hid BY; have HOY := Lib.hid hown1; have zy : base ≤ y1.heap.size := by have := hgrow.size; simp at this; omega)
        refine ⟨⟨k + 1, by omega, by go_num, ?_, HBY.out, by rw [← HBA.out]; exact zy⟩, by simp [intOf]; omega⟩
        rw [← HBA.out, HNX.out, cellsP_add, show infP p = ⟨p.id, p.cost, 0, zeroV⟩ from HI.out]
        exact HOY.out
    · obtain rfl : k = n := by omega
      rw [take_allP HN.out] at hO
      obtain ⟨a', cap', hv, hc, hr⟩ := irow_owned (l := infosP l) (by rw [infos_len, HN.out]; exact hO) HOK.out
      rw [infos_len, HN.out] at hv hc
      subst hv
      have HR := Lib.hid hr
      have HG := Lib.hid hG
      clear hO hr hG
      go_wp2
      go_ret
      exact ⟨a', cap', rfl, hc, HR.out, HG.out⟩
end Go.Proofs.YtojfmnndfophhaaGreat
