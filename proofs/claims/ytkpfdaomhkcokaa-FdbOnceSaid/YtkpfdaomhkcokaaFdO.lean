/-
  The document's own functions of layer 7: Age, Flush.
-/
import Derived.Test.YtkpfdaomhkcokaaFdN
namespace Go.Proofs.Ytkpfdaomhkcokaa
set_option linter.unusedVariables false
set_option linter.unusedSimpArgs false
open Go.RowKit Go.Maps Dm

/-- An append of a row to a row of the call's own, where the order is fixed. -/
theorem wpList_append_row (w : World) {ops : Array Oper} {rest : List Oper} {o : Oper} {ac : Act} {Q : Exit → Act → World → Prop} (hgd : o.guard = none) (s x : Operand)
    (ho : o.op = .call { callee := .builtin .append, args := #[s, x], argTypes := #[29, 29] })
    (base : Nat) (v : Value) (xs ys : List En) (a : Option Addr) (c m q : Nat) (hs : ac.eval s = v) (hown : Own5 w base v xs) (hx : ac.eval x = .slice a m c) (hm : m = ys.length) (hq : (xs ++ ys).length = q) (hr : Row w a ys) (hlen : xs.length + ys.length ≤ 3000) (hbase : base ≤ w.heap.size)
    (h : ∀ a' cap w', Own5 w' base (.slice a' q cap) (xs ++ ys) → w.grownBy w' v.ownBlock → q ≤ cap → wpList Try.prog ops Q rest (ac.put o.dst (.slice a' q cap)) w') : wpList Try.prog ops Q (o :: rest) ac w := by
  refine wpList_plain hgd fun _ hK => ?_
  subst hm hq
  obtain ⟨a', cap, w', hr1, h2, h3, h4⟩ := run_append_row w o.type base v xs ys a c hown hr hlen hbase
  unfold Oper.wp execOp
  simp only [ho, resolve, invoke, builtin, Sem.run_bind, Sem.run_pure, Result.andThen_ok, List.map_toArray, List.map_cons, List.map_nil, hs, hx, hr1]
  exact hK _ _ (h a' cap w' h2 h3 h4)

theorem take_filter {l : List En} {j : Nat} {x : En} (h : l[j]? = some x) (p : En → Bool) : (l.take (j + 1)).filter p = if p x then (l.take j).filter p ++ [x] else (l.take j).filter p := by
  rw [List.take_add_one, h]
  by_cases hp : p x <;> simp [List.filter_append, hp]
theorem own_none (w : World) (base : Nat) : Own5 w base (.slice none 0 0) [] := ⟨rfl, .inl ⟨rfl, rfl⟩⟩
theorem own_one {w : World} {base : Nat} {v : Value} {l : List En} (h : Own5 w base v l) (hl : l.length ≤ 1000) : ∃ a cap, v = .slice a l.length cap ∧ l.length ≤ cap ∧ Row w a l := by
  obtain ⟨a, cap, h1, h2, h3, _⟩ := row_owned h hl
  exact ⟨a, cap, h1, h2, h3⟩

set_option maxRecDepth 20000 in
set_option maxHeartbeats 8000000 in
theorem rflush_w (room : Int) (a : Option Addr) (cap : Nat) (t : Tb) (v p : Int) (w : World) (hr : Row w a t.l) (hc : t.l.length ≤ cap) :
    Calls Try.prog 23 #[rv room a t.l.length cap t.learned, .int .i64 v, .int .i64 p] w (RefAns room (flushT t v p) w) := by
  have hx0 : ∀ x ∈ t.l, True := fun _ _ => trivial
  obtain ⟨l, lr⟩ := t
  simp only at hr hc hx0 ⊢
  have h2 := two_tabs w room a l.length cap lr
  obtain ⟨W, hW⟩ : ∃ W, W = (w.alloc (.cells #[.int .i64 room, .slice a l.length cap, .int .i64 lr] 31)).alloc (.cells #[.int .i64 0, .slice none 0 0, .int .i64 0] 31) := ⟨_, rfl⟩
  rw [← hW] at h2
  obtain ⟨kW, rW, hB⟩ := h2
  have HR := Lib.hid (hr.next hB)
  have HX0 := Lib.hid hx0
  have hn1 := hr.few
  unfold flushT RefAns
  simp only
  obtain ⟨n, hn⟩ : ∃ n, l.length = n := ⟨_, rfl⟩
  have HN := Lib.hid hn
  rw [hn] at hW kW hc hn1 ⊢
  clear hn hr hx0
  go_enter Try.func23, Try.ntmps23
  go_wp2_with fail
  rw [← hW]
  obtain ⟨b, hb⟩ : ∃ b, b = w.heap.size := ⟨_, rfl⟩
  rw [← hb] at kW rW ⊢
  obtain ⟨base, hbase⟩ : ∃ base, base = W.heap.size := ⟨_, rfl⟩
  have lb := kW.lt
  have lb1 := rW.lt
  rw [← hbase] at lb lb1
  have hbw : w.heap.size ≤ b := Nat.le_of_eq hb.symm
  have hbw1 : w.heap.size ≤ b + 1 := Nat.le_succ_of_le hbw
  clear hW hb
  go_loopw [8, 9] (fun u8 i wr => ∃ j : Nat, j ≤ n ∧ i = .int .i64 (j : Nat) ∧ Own5 wr base u8 ((l.take j).filter (staysF v p)) ∧ Below W.heap.size W wr) (fun _ i _ => n - (intOf i).toNat)
  case atStart => exact ⟨0, Nat.zero_le _, rfl, own_none _ _, Below.refl _ _⟩
  case round =>
    obtain ⟨j, hj, rfl, hO, hBW⟩ := hrel
    have HO := Lib.hid hO
    have HBW := Lib.hid hBW
    clear hO
    obtain ⟨k0, k1, k2⟩ := (kW.next hBW).cells
    have hszw : base ≤ wr.heap.size := by rw [hbase]; exact hBW.size
    by_cases hjn : j < n
    · obtain ⟨⟨xv, xm, xp, xh, xf⟩, hx⟩ := at_some (l := l) (k := j) (by rw [HN.out]; exact hjn)
      obtain ⟨g, o, rfl, hgl, q0, q1, q2, q3, q4⟩ := (HR.out.next hBW).at_ j _ hx
      simp only at q0 q1 q2 q3 q4
      have HX := Lib.hid hx
      clear hBW
      clear hx
      cases xf with
      | true =>
        have HF := Lib.hid (show staysF v p ⟨xv, xm, xp, xh, true⟩ = true from by unfold staysF; simp; try omega)
        have O1 := Lib.hid (show Own5 ((wr.alloc (.cells #[.int .i64 xv, .string xm, .int .i64 xp, .int .i64 xh, .bool true] 40)).alloc (.cells #[.int .i64 xv, .string xm, .int .i64 xp, .int .i64 xh, .bool true] 40)) base u8 ((l.take j).filter (staysF v p)) from (HO.out.alloc (.cells #[.int .i64 xv, .string xm, .int .i64 xp, .int .i64 xh, .bool true] 40)).alloc (.cells #[.int .i64 xv, .string xm, .int .i64 xp, .int .i64 xh, .bool true] 40))
        have R1 := Lib.hid (show Row ((wr.alloc (.cells #[.int .i64 xv, .string xm, .int .i64 xp, .int .i64 xh, .bool true] 40)).alloc (.cells #[.int .i64 xv, .string xm, .int .i64 xp, .int .i64 xh, .bool true] 40)) (some ⟨wr.heap.size + 1, 0, none⟩) [⟨xv, xm, xp, xh, true⟩] from by have h := row_one (fblk_new (wr.alloc (.cells #[.int .i64 xv, .string xm, .int .i64 xp, .int .i64 xh, .bool true] 40)) xv xm xp xh true); rw [size_box] at h; exact h)
        obtain ⟨q, hq⟩ : ∃ q, ((l.take (j + 1)).filter (staysF v p)).length = q := ⟨_, rfl⟩
        have hqq : ((l.take j).filter (staysF v p) ++ [(⟨xv, xm, xp, xh, true⟩ : En)]).length = q := by rw [← hq, take_filter HX.out, if_pos HF.out]
        have HQ := Lib.hid (And.intro hqq hq)
        have HL := Lib.hid (show ((l.take j).filter (staysF v p)).length + [(⟨xv, xm, xp, xh, true⟩ : En)].length ≤ 3000 by have := HN.out; have h1 := List.length_filter_le (staysF v p) (l.take j); rw [List.length_take] at h1; simp; omega)
        have HZ := Lib.hid (show base ≤ ((wr.alloc (.cells #[.int .i64 xv, .string xm, .int .i64 xp, .int .i64 xh, .bool true] 40)).alloc (.cells #[.int .i64 xv, .string xm, .int .i64 xp, .int .i64 xh, .bool true] 40)).heap.size by rw [size_box, size_box]; omega)
        have BX := Lib.hid (show Below W.heap.size W ((wr.alloc (.cells #[.int .i64 xv, .string xm, .int .i64 xp, .int .i64 xh, .bool true] 40)).alloc (.cells #[.int .i64 xv, .string xm, .int .i64 xp, .int .i64 xh, .bool true] 40)) from bw_alloc (bw_alloc HBW.out (.cells #[.int .i64 xv, .string xm, .int .i64 xp, .int .i64 xh, .bool true] 40)) (.cells #[.int .i64 xv, .string xm, .int .i64 xp, .int .i64 xh, .bool true] 40))
        clear hq hqq
        go_wp2_with (at_builtin; go_loud (refine wpList_append_row _ rfl _ _ rfl base u8 ((l.take j).filter (staysF v p)) [⟨xv, xm, xp, xh, true⟩] (some ⟨wr.heap.size + 1, 0, none⟩) 1 1 q rfl O1.out rfl rfl HQ.out.1 R1.out HL.out HZ.out ?_; intro a8 cap8 w2 hown2 hgrow2 hc8; have HE := Lib.hid (And.intro (show Own5 w2 base (.slice a8 q cap8) ((l.take (j + 1)).filter (staysF v p)) by rw [take_filter HX.out, if_pos HF.out]; exact (HQ.out.1 ▸ hown2)) (below_own hbase BX.out O1.out hgrow2))))
        exact ⟨⟨j + 1, by omega, by go_num, HE.out.1, HE.out.2⟩, by simp [intOf]; omega⟩
      | false =>
        by_cases h1 : xv = v
        · subst h1
          by_cases h2 : xp = p
          · subst h2
            have HF := Lib.hid (show ¬ staysF xv xp ⟨xv, xm, xp, xh, false⟩ = true from by unfold staysF; simp; try omega)
            go_wp2
            exact ⟨⟨j + 1, by omega, by go_num, by rw [take_filter HX.out, if_neg HF.out]; exact HO.out.alloc _, bw_alloc HBW.out _⟩, by simp [intOf]; omega⟩
          · have HF := Lib.hid (show staysF xv p ⟨xv, xm, xp, xh, false⟩ = true from by unfold staysF; simp; try omega)
            have O1 := Lib.hid (show Own5 ((wr.alloc (.cells #[.int .i64 xv, .string xm, .int .i64 xp, .int .i64 xh, .bool false] 40)).alloc (.cells #[.int .i64 xv, .string xm, .int .i64 xp, .int .i64 xh, .bool false] 40)) base u8 ((l.take j).filter (staysF xv p)) from (HO.out.alloc (.cells #[.int .i64 xv, .string xm, .int .i64 xp, .int .i64 xh, .bool false] 40)).alloc (.cells #[.int .i64 xv, .string xm, .int .i64 xp, .int .i64 xh, .bool false] 40))
            have R1 := Lib.hid (show Row ((wr.alloc (.cells #[.int .i64 xv, .string xm, .int .i64 xp, .int .i64 xh, .bool false] 40)).alloc (.cells #[.int .i64 xv, .string xm, .int .i64 xp, .int .i64 xh, .bool false] 40)) (some ⟨wr.heap.size + 1, 0, none⟩) [⟨xv, xm, xp, xh, false⟩] from by have h := row_one (fblk_new (wr.alloc (.cells #[.int .i64 xv, .string xm, .int .i64 xp, .int .i64 xh, .bool false] 40)) xv xm xp xh false); rw [size_box] at h; exact h)
            obtain ⟨q, hq⟩ : ∃ q, ((l.take (j + 1)).filter (staysF xv p)).length = q := ⟨_, rfl⟩
            have hqq : ((l.take j).filter (staysF xv p) ++ [(⟨xv, xm, xp, xh, false⟩ : En)]).length = q := by rw [← hq, take_filter HX.out, if_pos HF.out]
            have HQ := Lib.hid (And.intro hqq hq)
            have HL := Lib.hid (show ((l.take j).filter (staysF xv p)).length + [(⟨xv, xm, xp, xh, false⟩ : En)].length ≤ 3000 by have := HN.out; have h1 := List.length_filter_le (staysF xv p) (l.take j); rw [List.length_take] at h1; simp; omega)
            have HZ := Lib.hid (show base ≤ ((wr.alloc (.cells #[.int .i64 xv, .string xm, .int .i64 xp, .int .i64 xh, .bool false] 40)).alloc (.cells #[.int .i64 xv, .string xm, .int .i64 xp, .int .i64 xh, .bool false] 40)).heap.size by rw [size_box, size_box]; omega)
            have BX := Lib.hid (show Below W.heap.size W ((wr.alloc (.cells #[.int .i64 xv, .string xm, .int .i64 xp, .int .i64 xh, .bool false] 40)).alloc (.cells #[.int .i64 xv, .string xm, .int .i64 xp, .int .i64 xh, .bool false] 40)) from bw_alloc (bw_alloc HBW.out (.cells #[.int .i64 xv, .string xm, .int .i64 xp, .int .i64 xh, .bool false] 40)) (.cells #[.int .i64 xv, .string xm, .int .i64 xp, .int .i64 xh, .bool false] 40))
            clear hq hqq
            go_wp2_with (at_builtin; go_loud (refine wpList_append_row _ rfl _ _ rfl base u8 ((l.take j).filter (staysF xv p)) [⟨xv, xm, xp, xh, false⟩] (some ⟨wr.heap.size + 1, 0, none⟩) 1 1 q rfl O1.out rfl rfl HQ.out.1 R1.out HL.out HZ.out ?_; intro a8 cap8 w2 hown2 hgrow2 hc8; have HE := Lib.hid (And.intro (show Own5 w2 base (.slice a8 q cap8) ((l.take (j + 1)).filter (staysF xv p)) by rw [take_filter HX.out, if_pos HF.out]; exact (HQ.out.1 ▸ hown2)) (below_own hbase BX.out O1.out hgrow2))))
            exact ⟨⟨j + 1, by omega, by go_num, HE.out.1, HE.out.2⟩, by simp [intOf]; omega⟩
        · have HF := Lib.hid (show staysF v p ⟨xv, xm, xp, xh, false⟩ = true from by unfold staysF; simp; try omega)
          have O1 := Lib.hid (show Own5 ((wr.alloc (.cells #[.int .i64 xv, .string xm, .int .i64 xp, .int .i64 xh, .bool false] 40)).alloc (.cells #[.int .i64 xv, .string xm, .int .i64 xp, .int .i64 xh, .bool false] 40)) base u8 ((l.take j).filter (staysF v p)) from (HO.out.alloc (.cells #[.int .i64 xv, .string xm, .int .i64 xp, .int .i64 xh, .bool false] 40)).alloc (.cells #[.int .i64 xv, .string xm, .int .i64 xp, .int .i64 xh, .bool false] 40))
          have R1 := Lib.hid (show Row ((wr.alloc (.cells #[.int .i64 xv, .string xm, .int .i64 xp, .int .i64 xh, .bool false] 40)).alloc (.cells #[.int .i64 xv, .string xm, .int .i64 xp, .int .i64 xh, .bool false] 40)) (some ⟨wr.heap.size + 1, 0, none⟩) [⟨xv, xm, xp, xh, false⟩] from by have h := row_one (fblk_new (wr.alloc (.cells #[.int .i64 xv, .string xm, .int .i64 xp, .int .i64 xh, .bool false] 40)) xv xm xp xh false); rw [size_box] at h; exact h)
          obtain ⟨q, hq⟩ : ∃ q, ((l.take (j + 1)).filter (staysF v p)).length = q := ⟨_, rfl⟩
          have hqq : ((l.take j).filter (staysF v p) ++ [(⟨xv, xm, xp, xh, false⟩ : En)]).length = q := by rw [← hq, take_filter HX.out, if_pos HF.out]
          have HQ := Lib.hid (And.intro hqq hq)
          have HL := Lib.hid (show ((l.take j).filter (staysF v p)).length + [(⟨xv, xm, xp, xh, false⟩ : En)].length ≤ 3000 by have := HN.out; have h1 := List.length_filter_le (staysF v p) (l.take j); rw [List.length_take] at h1; simp; omega)
          have HZ := Lib.hid (show base ≤ ((wr.alloc (.cells #[.int .i64 xv, .string xm, .int .i64 xp, .int .i64 xh, .bool false] 40)).alloc (.cells #[.int .i64 xv, .string xm, .int .i64 xp, .int .i64 xh, .bool false] 40)).heap.size by rw [size_box, size_box]; omega)
          have BX := Lib.hid (show Below W.heap.size W ((wr.alloc (.cells #[.int .i64 xv, .string xm, .int .i64 xp, .int .i64 xh, .bool false] 40)).alloc (.cells #[.int .i64 xv, .string xm, .int .i64 xp, .int .i64 xh, .bool false] 40)) from bw_alloc (bw_alloc HBW.out (.cells #[.int .i64 xv, .string xm, .int .i64 xp, .int .i64 xh, .bool false] 40)) (.cells #[.int .i64 xv, .string xm, .int .i64 xp, .int .i64 xh, .bool false] 40))
          clear hq hqq
          go_wp2_with (at_builtin; go_loud (refine wpList_append_row _ rfl _ _ rfl base u8 ((l.take j).filter (staysF v p)) [⟨xv, xm, xp, xh, false⟩] (some ⟨wr.heap.size + 1, 0, none⟩) 1 1 q rfl O1.out rfl rfl HQ.out.1 R1.out HL.out HZ.out ?_; intro a8 cap8 w2 hown2 hgrow2 hc8; have HE := Lib.hid (And.intro (show Own5 w2 base (.slice a8 q cap8) ((l.take (j + 1)).filter (staysF v p)) by rw [take_filter HX.out, if_pos HF.out]; exact (HQ.out.1 ▸ hown2)) (below_own hbase BX.out O1.out hgrow2))))
          exact ⟨⟨j + 1, by omega, by go_num, HE.out.1, HE.out.2⟩, by simp [intOf]; omega⟩
    · obtain rfl : j = n := by omega
      have htk : (l.take j).filter (staysF v p) = l.filter (staysF v p) := by rw [List.take_of_length_le (by rw [HN.out]; exact Nat.le_refl _)]
      rw [htk] at HO
      obtain ⟨Q, hQ⟩ : ∃ Q, l.filter (staysF v p) = Q := ⟨_, rfl⟩
      have hQl : Q.length ≤ j := by rw [← hQ, ← HN.out]; exact List.length_filter_le _ _
      rw [hQ] at HO
      obtain ⟨a8, cap8, rfl, hc8, hr8⟩ := own_one HO.out (by omega)
      obtain ⟨N, hN⟩ : ∃ N, Q.length = N := ⟨_, rfl⟩
      have HQN := Lib.hid hN
      rw [hN] at hc8 hQl
      have HQQ := Lib.hid hQ
      have hkf := (kW.next hBW).free 1
      have hrz := rW.next hBW
      obtain ⟨z0, z1, z2⟩ := hrz.cells
      have f0 := hrz.free 0
      have f1 := hrz.free 1
      have f2 := hrz.free 2
      have hwN : IntKind.i64.wrap ((j : Int) - (N : Int)) = (j : Int) - (N : Int) := by rw [IntKind.wrap_i64]; omega
      have HRZ := Lib.hid hrz
      have HKW := Lib.hid (kW.next hBW)
      have HR8 := Lib.hid hr8
      have HBF := Lib.hid hB
      clear hrz hr8 hB htk hQ HO hN
      rw [HQN.out]
      go_wp2
      rw [HQQ.out, HQN.out]
      obtain ⟨Vf, hVf⟩ : ∃ V, V = (((wr.setCell ⟨b, 1, none⟩ (.slice a8 N cap8)).setCell ⟨b + 1, 0, none⟩ (.int .i64 room)).setCell ⟨b + 1, 1, none⟩ (.slice a8 N cap8)).setCell ⟨b + 1, 2, none⟩ (.int .i64 lr) := ⟨_, rfl⟩
      obtain ⟨⟨g0, g1, g2⟩, hrF, hBF⟩ := ends_tab (HRZ.out.other (c := b) (by omega) 1 _) ((HBF.out.trans (HBW.out.mono HBF.out.size)).setCell (p := ⟨b, 1, none⟩) hbw _) hbw1 (row_set1 HR8.out HKW.out 1 _) room N cap8 lr Vf hVf
      rw [← hVf]
      exact bodyPost_ret (v := .tuple #[rv room a8 N cap8 lr, .int .i64 ((j : Int) - (N : Int))]) (by simp [results, Try.results23, go_sem, g0, g1, g2]) rfl ⟨a8, cap8, by first | rfl | simp, hrF, hc8, hBF⟩

set_option maxRecDepth 20000 in
set_option maxHeartbeats 8000000 in
theorem rage_w (room : Int) (a : Option Addr) (cap : Nat) (t : Tb) (now long : Int) (w : World) (hr : Row w a t.l) (hc : t.l.length ≤ cap) (hx0 : ∀ x ∈ t.l, 0 ≤ x.heard) (hnow : -9223372036854775808 ≤ now ∧ now ≤ 9223372036854775807) :
    Calls Try.prog 22 #[rv room a t.l.length cap t.learned, .int .i64 now, .int .i64 long] w (RefAns room (ageT t now long) w) := by
  obtain ⟨l, lr⟩ := t
  simp only at hr hc hx0 ⊢
  have h2 := two_tabs w room a l.length cap lr
  obtain ⟨W, hW⟩ : ∃ W, W = (w.alloc (.cells #[.int .i64 room, .slice a l.length cap, .int .i64 lr] 31)).alloc (.cells #[.int .i64 0, .slice none 0 0, .int .i64 0] 31) := ⟨_, rfl⟩
  rw [← hW] at h2
  obtain ⟨kW, rW, hB⟩ := h2
  have HR := Lib.hid (hr.next hB)
  have HX0 := Lib.hid hx0
  have hn1 := hr.few
  unfold ageT RefAns
  simp only
  obtain ⟨n, hn⟩ : ∃ n, l.length = n := ⟨_, rfl⟩
  have HN := Lib.hid hn
  rw [hn] at hW kW hc hn1 ⊢
  clear hn hr hx0
  by_cases hl : long < 0
  · have hG : max long 0 = 0 := by omega
    have HG := Lib.hid hG
    clear hG
    go_enter Try.func22, Try.ntmps22
    go_wp2_with fail
    rw [← hW]
    obtain ⟨b, hb⟩ : ∃ b, b = w.heap.size := ⟨_, rfl⟩
    rw [← hb] at kW rW ⊢
    obtain ⟨base, hbase⟩ : ∃ base, base = W.heap.size := ⟨_, rfl⟩
    have lb := kW.lt
    have lb1 := rW.lt
    rw [← hbase] at lb lb1
    have hbw : w.heap.size ≤ b := Nat.le_of_eq hb.symm
    have hbw1 : w.heap.size ≤ b + 1 := Nat.le_succ_of_le hbw
    clear hW hb
    go_loopw [8, 9] (fun u8 i wr => ∃ j : Nat, j ≤ n ∧ i = .int .i64 (j : Nat) ∧ Own5 wr base u8 ((l.take j).filter (staysA now long)) ∧ Below W.heap.size W wr) (fun _ i _ => n - (intOf i).toNat)
    case atStart => exact ⟨0, Nat.zero_le _, rfl, own_none _ _, Below.refl _ _⟩
    case round =>
      obtain ⟨j, hj, rfl, hO, hBW⟩ := hrel
      have HO := Lib.hid hO
      have HBW := Lib.hid hBW
      clear hO
      obtain ⟨k0, k1, k2⟩ := (kW.next hBW).cells
      have hszw : base ≤ wr.heap.size := by rw [hbase]; exact hBW.size
      by_cases hjn : j < n
      · obtain ⟨⟨xv, xm, xp, xh, xf⟩, hx⟩ := at_some (l := l) (k := j) (by rw [HN.out]; exact hjn)
        obtain ⟨g, o, rfl, hgl, q0, q1, q2, q3, q4⟩ := (HR.out.next hBW).at_ j _ hx
        simp only at q0 q1 q2 q3 q4
        have HX := Lib.hid hx
        clear hBW
        have hxh := HX0.out _ (List.mem_of_getElem? HX.out)
        simp only at hxh
        clear hx
        cases xf with
        | true =>
          have HF := Lib.hid (show staysA now long ⟨xv, xm, xp, xh, true⟩ = true from by have hG := HG.out; unfold staysA; simp; try omega)
          have O1 := Lib.hid (show Own5 ((wr.alloc (.cells #[.int .i64 xv, .string xm, .int .i64 xp, .int .i64 xh, .bool true] 40)).alloc (.cells #[.int .i64 xv, .string xm, .int .i64 xp, .int .i64 xh, .bool true] 40)) base u8 ((l.take j).filter (staysA now long)) from (HO.out.alloc (.cells #[.int .i64 xv, .string xm, .int .i64 xp, .int .i64 xh, .bool true] 40)).alloc (.cells #[.int .i64 xv, .string xm, .int .i64 xp, .int .i64 xh, .bool true] 40))
          have R1 := Lib.hid (show Row ((wr.alloc (.cells #[.int .i64 xv, .string xm, .int .i64 xp, .int .i64 xh, .bool true] 40)).alloc (.cells #[.int .i64 xv, .string xm, .int .i64 xp, .int .i64 xh, .bool true] 40)) (some ⟨wr.heap.size + 1, 0, none⟩) [⟨xv, xm, xp, xh, true⟩] from by have h := row_one (fblk_new (wr.alloc (.cells #[.int .i64 xv, .string xm, .int .i64 xp, .int .i64 xh, .bool true] 40)) xv xm xp xh true); rw [size_box] at h; exact h)
          obtain ⟨q, hq⟩ : ∃ q, ((l.take (j + 1)).filter (staysA now long)).length = q := ⟨_, rfl⟩
          have hqq : ((l.take j).filter (staysA now long) ++ [(⟨xv, xm, xp, xh, true⟩ : En)]).length = q := by rw [← hq, take_filter HX.out, if_pos HF.out]
          have HQ := Lib.hid (And.intro hqq hq)
          have HL := Lib.hid (show ((l.take j).filter (staysA now long)).length + [(⟨xv, xm, xp, xh, true⟩ : En)].length ≤ 3000 by have := HN.out; have h1 := List.length_filter_le (staysA now long) (l.take j); rw [List.length_take] at h1; simp; omega)
          have HZ := Lib.hid (show base ≤ ((wr.alloc (.cells #[.int .i64 xv, .string xm, .int .i64 xp, .int .i64 xh, .bool true] 40)).alloc (.cells #[.int .i64 xv, .string xm, .int .i64 xp, .int .i64 xh, .bool true] 40)).heap.size by rw [size_box, size_box]; omega)
          have BX := Lib.hid (show Below W.heap.size W ((wr.alloc (.cells #[.int .i64 xv, .string xm, .int .i64 xp, .int .i64 xh, .bool true] 40)).alloc (.cells #[.int .i64 xv, .string xm, .int .i64 xp, .int .i64 xh, .bool true] 40)) from bw_alloc (bw_alloc HBW.out (.cells #[.int .i64 xv, .string xm, .int .i64 xp, .int .i64 xh, .bool true] 40)) (.cells #[.int .i64 xv, .string xm, .int .i64 xp, .int .i64 xh, .bool true] 40))
          clear hq hqq
          go_wp2_with (at_builtin; go_loud (refine wpList_append_row _ rfl _ _ rfl base u8 ((l.take j).filter (staysA now long)) [⟨xv, xm, xp, xh, true⟩] (some ⟨wr.heap.size + 1, 0, none⟩) 1 1 q rfl O1.out rfl rfl HQ.out.1 R1.out HL.out HZ.out ?_; intro a8 cap8 w2 hown2 hgrow2 hc8; have HE := Lib.hid (And.intro (show Own5 w2 base (.slice a8 q cap8) ((l.take (j + 1)).filter (staysA now long)) by rw [take_filter HX.out, if_pos HF.out]; exact (HQ.out.1 ▸ hown2)) (below_own hbase BX.out O1.out hgrow2))))
          exact ⟨⟨j + 1, by omega, by go_num, HE.out.1, HE.out.2⟩, by simp [intOf]; omega⟩
        | false =>
          by_cases h1 : now < xh
          · have HF := Lib.hid (show staysA now long ⟨xv, xm, xp, xh, false⟩ = true from by have hG := HG.out; unfold staysA; simp; try omega)
            have O1 := Lib.hid (show Own5 ((wr.alloc (.cells #[.int .i64 xv, .string xm, .int .i64 xp, .int .i64 xh, .bool false] 40)).alloc (.cells #[.int .i64 xv, .string xm, .int .i64 xp, .int .i64 xh, .bool false] 40)) base u8 ((l.take j).filter (staysA now long)) from (HO.out.alloc (.cells #[.int .i64 xv, .string xm, .int .i64 xp, .int .i64 xh, .bool false] 40)).alloc (.cells #[.int .i64 xv, .string xm, .int .i64 xp, .int .i64 xh, .bool false] 40))
            have R1 := Lib.hid (show Row ((wr.alloc (.cells #[.int .i64 xv, .string xm, .int .i64 xp, .int .i64 xh, .bool false] 40)).alloc (.cells #[.int .i64 xv, .string xm, .int .i64 xp, .int .i64 xh, .bool false] 40)) (some ⟨wr.heap.size + 1, 0, none⟩) [⟨xv, xm, xp, xh, false⟩] from by have h := row_one (fblk_new (wr.alloc (.cells #[.int .i64 xv, .string xm, .int .i64 xp, .int .i64 xh, .bool false] 40)) xv xm xp xh false); rw [size_box] at h; exact h)
            obtain ⟨q, hq⟩ : ∃ q, ((l.take (j + 1)).filter (staysA now long)).length = q := ⟨_, rfl⟩
            have hqq : ((l.take j).filter (staysA now long) ++ [(⟨xv, xm, xp, xh, false⟩ : En)]).length = q := by rw [← hq, take_filter HX.out, if_pos HF.out]
            have HQ := Lib.hid (And.intro hqq hq)
            have HL := Lib.hid (show ((l.take j).filter (staysA now long)).length + [(⟨xv, xm, xp, xh, false⟩ : En)].length ≤ 3000 by have := HN.out; have h1 := List.length_filter_le (staysA now long) (l.take j); rw [List.length_take] at h1; simp; omega)
            have HZ := Lib.hid (show base ≤ ((wr.alloc (.cells #[.int .i64 xv, .string xm, .int .i64 xp, .int .i64 xh, .bool false] 40)).alloc (.cells #[.int .i64 xv, .string xm, .int .i64 xp, .int .i64 xh, .bool false] 40)).heap.size by rw [size_box, size_box]; omega)
            have BX := Lib.hid (show Below W.heap.size W ((wr.alloc (.cells #[.int .i64 xv, .string xm, .int .i64 xp, .int .i64 xh, .bool false] 40)).alloc (.cells #[.int .i64 xv, .string xm, .int .i64 xp, .int .i64 xh, .bool false] 40)) from bw_alloc (bw_alloc HBW.out (.cells #[.int .i64 xv, .string xm, .int .i64 xp, .int .i64 xh, .bool false] 40)) (.cells #[.int .i64 xv, .string xm, .int .i64 xp, .int .i64 xh, .bool false] 40))
            clear hq hqq
            go_wp2_with (at_builtin; go_loud (refine wpList_append_row _ rfl _ _ rfl base u8 ((l.take j).filter (staysA now long)) [⟨xv, xm, xp, xh, false⟩] (some ⟨wr.heap.size + 1, 0, none⟩) 1 1 q rfl O1.out rfl rfl HQ.out.1 R1.out HL.out HZ.out ?_; intro a8 cap8 w2 hown2 hgrow2 hc8; have HE := Lib.hid (And.intro (show Own5 w2 base (.slice a8 q cap8) ((l.take (j + 1)).filter (staysA now long)) by rw [take_filter HX.out, if_pos HF.out]; exact (HQ.out.1 ▸ hown2)) (below_own hbase BX.out O1.out hgrow2))))
            exact ⟨⟨j + 1, by omega, by go_num, HE.out.1, HE.out.2⟩, by simp [intOf]; omega⟩
          · have hle : xh ≤ now := by omega
            have hw3 : IntKind.i64.wrap (now - xh) = now - xh := by rw [IntKind.wrap_i64]; omega
            by_cases h2 : now - xh < 0
            · exact absurd h2 (by omega)
            · have HF := Lib.hid (show ¬ staysA now long ⟨xv, xm, xp, xh, false⟩ = true from by have hG := HG.out; unfold staysA; simp; try omega)
              go_wp2
              exact ⟨⟨j + 1, by omega, by go_num, by rw [take_filter HX.out, if_neg HF.out]; exact HO.out.alloc _, bw_alloc HBW.out _⟩, by simp [intOf]; omega⟩
      · obtain rfl : j = n := by omega
        have htk : (l.take j).filter (staysA now long) = l.filter (staysA now long) := by rw [List.take_of_length_le (by rw [HN.out]; exact Nat.le_refl _)]
        rw [htk] at HO
        obtain ⟨Q, hQ⟩ : ∃ Q, l.filter (staysA now long) = Q := ⟨_, rfl⟩
        have hQl : Q.length ≤ j := by rw [← hQ, ← HN.out]; exact List.length_filter_le _ _
        rw [hQ] at HO
        obtain ⟨a8, cap8, rfl, hc8, hr8⟩ := own_one HO.out (by omega)
        obtain ⟨N, hN⟩ : ∃ N, Q.length = N := ⟨_, rfl⟩
        have HQN := Lib.hid hN
        rw [hN] at hc8 hQl
        have HQQ := Lib.hid hQ
        have hkf := (kW.next hBW).free 1
        have hrz := rW.next hBW
        obtain ⟨z0, z1, z2⟩ := hrz.cells
        have f0 := hrz.free 0
        have f1 := hrz.free 1
        have f2 := hrz.free 2
        have hwN : IntKind.i64.wrap ((j : Int) - (N : Int)) = (j : Int) - (N : Int) := by rw [IntKind.wrap_i64]; omega
        have HRZ := Lib.hid hrz
        have HKW := Lib.hid (kW.next hBW)
        have HR8 := Lib.hid hr8
        have HBF := Lib.hid hB
        clear hrz hr8 hB htk hQ HO hN
        rw [HQN.out]
        go_wp2
        rw [HQQ.out, HQN.out]
        obtain ⟨Vf, hVf⟩ : ∃ V, V = (((wr.setCell ⟨b, 1, none⟩ (.slice a8 N cap8)).setCell ⟨b + 1, 0, none⟩ (.int .i64 room)).setCell ⟨b + 1, 1, none⟩ (.slice a8 N cap8)).setCell ⟨b + 1, 2, none⟩ (.int .i64 lr) := ⟨_, rfl⟩
        obtain ⟨⟨g0, g1, g2⟩, hrF, hBF⟩ := ends_tab (HRZ.out.other (c := b) (by omega) 1 _) ((HBF.out.trans (HBW.out.mono HBF.out.size)).setCell (p := ⟨b, 1, none⟩) hbw _) hbw1 (row_set1 HR8.out HKW.out 1 _) room N cap8 lr Vf hVf
        rw [← hVf]
        exact bodyPost_ret (v := .tuple #[rv room a8 N cap8 lr, .int .i64 ((j : Int) - (N : Int))]) (by simp [results, Try.results22, go_sem, g0, g1, g2]) rfl ⟨a8, cap8, by first | rfl | simp, hrF, hc8, hBF⟩
  · have hG : max long 0 = long := by omega
    have HG := Lib.hid hG
    clear hG
    go_enter Try.func22, Try.ntmps22
    go_wp2_with fail
    rw [← hW]
    obtain ⟨b, hb⟩ : ∃ b, b = w.heap.size := ⟨_, rfl⟩
    rw [← hb] at kW rW ⊢
    obtain ⟨base, hbase⟩ : ∃ base, base = W.heap.size := ⟨_, rfl⟩
    have lb := kW.lt
    have lb1 := rW.lt
    rw [← hbase] at lb lb1
    have hbw : w.heap.size ≤ b := Nat.le_of_eq hb.symm
    have hbw1 : w.heap.size ≤ b + 1 := Nat.le_succ_of_le hbw
    clear hW hb
    go_loopw [8, 9] (fun u8 i wr => ∃ j : Nat, j ≤ n ∧ i = .int .i64 (j : Nat) ∧ Own5 wr base u8 ((l.take j).filter (staysA now long)) ∧ Below W.heap.size W wr) (fun _ i _ => n - (intOf i).toNat)
    case atStart => exact ⟨0, Nat.zero_le _, rfl, own_none _ _, Below.refl _ _⟩
    case round =>
      obtain ⟨j, hj, rfl, hO, hBW⟩ := hrel
      have HO := Lib.hid hO
      have HBW := Lib.hid hBW
      clear hO
      obtain ⟨k0, k1, k2⟩ := (kW.next hBW).cells
      have hszw : base ≤ wr.heap.size := by rw [hbase]; exact hBW.size
      by_cases hjn : j < n
      · obtain ⟨⟨xv, xm, xp, xh, xf⟩, hx⟩ := at_some (l := l) (k := j) (by rw [HN.out]; exact hjn)
        obtain ⟨g, o, rfl, hgl, q0, q1, q2, q3, q4⟩ := (HR.out.next hBW).at_ j _ hx
        simp only at q0 q1 q2 q3 q4
        have HX := Lib.hid hx
        clear hBW
        have hxh := HX0.out _ (List.mem_of_getElem? HX.out)
        simp only at hxh
        clear hx
        cases xf with
        | true =>
          have HF := Lib.hid (show staysA now long ⟨xv, xm, xp, xh, true⟩ = true from by have hG := HG.out; unfold staysA; simp; try omega)
          have O1 := Lib.hid (show Own5 ((wr.alloc (.cells #[.int .i64 xv, .string xm, .int .i64 xp, .int .i64 xh, .bool true] 40)).alloc (.cells #[.int .i64 xv, .string xm, .int .i64 xp, .int .i64 xh, .bool true] 40)) base u8 ((l.take j).filter (staysA now long)) from (HO.out.alloc (.cells #[.int .i64 xv, .string xm, .int .i64 xp, .int .i64 xh, .bool true] 40)).alloc (.cells #[.int .i64 xv, .string xm, .int .i64 xp, .int .i64 xh, .bool true] 40))
          have R1 := Lib.hid (show Row ((wr.alloc (.cells #[.int .i64 xv, .string xm, .int .i64 xp, .int .i64 xh, .bool true] 40)).alloc (.cells #[.int .i64 xv, .string xm, .int .i64 xp, .int .i64 xh, .bool true] 40)) (some ⟨wr.heap.size + 1, 0, none⟩) [⟨xv, xm, xp, xh, true⟩] from by have h := row_one (fblk_new (wr.alloc (.cells #[.int .i64 xv, .string xm, .int .i64 xp, .int .i64 xh, .bool true] 40)) xv xm xp xh true); rw [size_box] at h; exact h)
          obtain ⟨q, hq⟩ : ∃ q, ((l.take (j + 1)).filter (staysA now long)).length = q := ⟨_, rfl⟩
          have hqq : ((l.take j).filter (staysA now long) ++ [(⟨xv, xm, xp, xh, true⟩ : En)]).length = q := by rw [← hq, take_filter HX.out, if_pos HF.out]
          have HQ := Lib.hid (And.intro hqq hq)
          have HL := Lib.hid (show ((l.take j).filter (staysA now long)).length + [(⟨xv, xm, xp, xh, true⟩ : En)].length ≤ 3000 by have := HN.out; have h1 := List.length_filter_le (staysA now long) (l.take j); rw [List.length_take] at h1; simp; omega)
          have HZ := Lib.hid (show base ≤ ((wr.alloc (.cells #[.int .i64 xv, .string xm, .int .i64 xp, .int .i64 xh, .bool true] 40)).alloc (.cells #[.int .i64 xv, .string xm, .int .i64 xp, .int .i64 xh, .bool true] 40)).heap.size by rw [size_box, size_box]; omega)
          have BX := Lib.hid (show Below W.heap.size W ((wr.alloc (.cells #[.int .i64 xv, .string xm, .int .i64 xp, .int .i64 xh, .bool true] 40)).alloc (.cells #[.int .i64 xv, .string xm, .int .i64 xp, .int .i64 xh, .bool true] 40)) from bw_alloc (bw_alloc HBW.out (.cells #[.int .i64 xv, .string xm, .int .i64 xp, .int .i64 xh, .bool true] 40)) (.cells #[.int .i64 xv, .string xm, .int .i64 xp, .int .i64 xh, .bool true] 40))
          clear hq hqq
          go_wp2_with (at_builtin; go_loud (refine wpList_append_row _ rfl _ _ rfl base u8 ((l.take j).filter (staysA now long)) [⟨xv, xm, xp, xh, true⟩] (some ⟨wr.heap.size + 1, 0, none⟩) 1 1 q rfl O1.out rfl rfl HQ.out.1 R1.out HL.out HZ.out ?_; intro a8 cap8 w2 hown2 hgrow2 hc8; have HE := Lib.hid (And.intro (show Own5 w2 base (.slice a8 q cap8) ((l.take (j + 1)).filter (staysA now long)) by rw [take_filter HX.out, if_pos HF.out]; exact (HQ.out.1 ▸ hown2)) (below_own hbase BX.out O1.out hgrow2))))
          exact ⟨⟨j + 1, by omega, by go_num, HE.out.1, HE.out.2⟩, by simp [intOf]; omega⟩
        | false =>
          by_cases h1 : now < xh
          · have HF := Lib.hid (show staysA now long ⟨xv, xm, xp, xh, false⟩ = true from by have hG := HG.out; unfold staysA; simp; try omega)
            have O1 := Lib.hid (show Own5 ((wr.alloc (.cells #[.int .i64 xv, .string xm, .int .i64 xp, .int .i64 xh, .bool false] 40)).alloc (.cells #[.int .i64 xv, .string xm, .int .i64 xp, .int .i64 xh, .bool false] 40)) base u8 ((l.take j).filter (staysA now long)) from (HO.out.alloc (.cells #[.int .i64 xv, .string xm, .int .i64 xp, .int .i64 xh, .bool false] 40)).alloc (.cells #[.int .i64 xv, .string xm, .int .i64 xp, .int .i64 xh, .bool false] 40))
            have R1 := Lib.hid (show Row ((wr.alloc (.cells #[.int .i64 xv, .string xm, .int .i64 xp, .int .i64 xh, .bool false] 40)).alloc (.cells #[.int .i64 xv, .string xm, .int .i64 xp, .int .i64 xh, .bool false] 40)) (some ⟨wr.heap.size + 1, 0, none⟩) [⟨xv, xm, xp, xh, false⟩] from by have h := row_one (fblk_new (wr.alloc (.cells #[.int .i64 xv, .string xm, .int .i64 xp, .int .i64 xh, .bool false] 40)) xv xm xp xh false); rw [size_box] at h; exact h)
            obtain ⟨q, hq⟩ : ∃ q, ((l.take (j + 1)).filter (staysA now long)).length = q := ⟨_, rfl⟩
            have hqq : ((l.take j).filter (staysA now long) ++ [(⟨xv, xm, xp, xh, false⟩ : En)]).length = q := by rw [← hq, take_filter HX.out, if_pos HF.out]
            have HQ := Lib.hid (And.intro hqq hq)
            have HL := Lib.hid (show ((l.take j).filter (staysA now long)).length + [(⟨xv, xm, xp, xh, false⟩ : En)].length ≤ 3000 by have := HN.out; have h1 := List.length_filter_le (staysA now long) (l.take j); rw [List.length_take] at h1; simp; omega)
            have HZ := Lib.hid (show base ≤ ((wr.alloc (.cells #[.int .i64 xv, .string xm, .int .i64 xp, .int .i64 xh, .bool false] 40)).alloc (.cells #[.int .i64 xv, .string xm, .int .i64 xp, .int .i64 xh, .bool false] 40)).heap.size by rw [size_box, size_box]; omega)
            have BX := Lib.hid (show Below W.heap.size W ((wr.alloc (.cells #[.int .i64 xv, .string xm, .int .i64 xp, .int .i64 xh, .bool false] 40)).alloc (.cells #[.int .i64 xv, .string xm, .int .i64 xp, .int .i64 xh, .bool false] 40)) from bw_alloc (bw_alloc HBW.out (.cells #[.int .i64 xv, .string xm, .int .i64 xp, .int .i64 xh, .bool false] 40)) (.cells #[.int .i64 xv, .string xm, .int .i64 xp, .int .i64 xh, .bool false] 40))
            clear hq hqq
            go_wp2_with (at_builtin; go_loud (refine wpList_append_row _ rfl _ _ rfl base u8 ((l.take j).filter (staysA now long)) [⟨xv, xm, xp, xh, false⟩] (some ⟨wr.heap.size + 1, 0, none⟩) 1 1 q rfl O1.out rfl rfl HQ.out.1 R1.out HL.out HZ.out ?_; intro a8 cap8 w2 hown2 hgrow2 hc8; have HE := Lib.hid (And.intro (show Own5 w2 base (.slice a8 q cap8) ((l.take (j + 1)).filter (staysA now long)) by rw [take_filter HX.out, if_pos HF.out]; exact (HQ.out.1 ▸ hown2)) (below_own hbase BX.out O1.out hgrow2))))
            exact ⟨⟨j + 1, by omega, by go_num, HE.out.1, HE.out.2⟩, by simp [intOf]; omega⟩
          · have hle : xh ≤ now := by omega
            have hw3 : IntKind.i64.wrap (now - xh) = now - xh := by rw [IntKind.wrap_i64]; omega
            by_cases h2 : now - xh < long
            · have HF := Lib.hid (show staysA now long ⟨xv, xm, xp, xh, false⟩ = true from by have hG := HG.out; unfold staysA; simp; try omega)
              have O1 := Lib.hid (show Own5 ((wr.alloc (.cells #[.int .i64 xv, .string xm, .int .i64 xp, .int .i64 xh, .bool false] 40)).alloc (.cells #[.int .i64 xv, .string xm, .int .i64 xp, .int .i64 xh, .bool false] 40)) base u8 ((l.take j).filter (staysA now long)) from (HO.out.alloc (.cells #[.int .i64 xv, .string xm, .int .i64 xp, .int .i64 xh, .bool false] 40)).alloc (.cells #[.int .i64 xv, .string xm, .int .i64 xp, .int .i64 xh, .bool false] 40))
              have R1 := Lib.hid (show Row ((wr.alloc (.cells #[.int .i64 xv, .string xm, .int .i64 xp, .int .i64 xh, .bool false] 40)).alloc (.cells #[.int .i64 xv, .string xm, .int .i64 xp, .int .i64 xh, .bool false] 40)) (some ⟨wr.heap.size + 1, 0, none⟩) [⟨xv, xm, xp, xh, false⟩] from by have h := row_one (fblk_new (wr.alloc (.cells #[.int .i64 xv, .string xm, .int .i64 xp, .int .i64 xh, .bool false] 40)) xv xm xp xh false); rw [size_box] at h; exact h)
              obtain ⟨q, hq⟩ : ∃ q, ((l.take (j + 1)).filter (staysA now long)).length = q := ⟨_, rfl⟩
              have hqq : ((l.take j).filter (staysA now long) ++ [(⟨xv, xm, xp, xh, false⟩ : En)]).length = q := by rw [← hq, take_filter HX.out, if_pos HF.out]
              have HQ := Lib.hid (And.intro hqq hq)
              have HL := Lib.hid (show ((l.take j).filter (staysA now long)).length + [(⟨xv, xm, xp, xh, false⟩ : En)].length ≤ 3000 by have := HN.out; have h1 := List.length_filter_le (staysA now long) (l.take j); rw [List.length_take] at h1; simp; omega)
              have HZ := Lib.hid (show base ≤ ((wr.alloc (.cells #[.int .i64 xv, .string xm, .int .i64 xp, .int .i64 xh, .bool false] 40)).alloc (.cells #[.int .i64 xv, .string xm, .int .i64 xp, .int .i64 xh, .bool false] 40)).heap.size by rw [size_box, size_box]; omega)
              have BX := Lib.hid (show Below W.heap.size W ((wr.alloc (.cells #[.int .i64 xv, .string xm, .int .i64 xp, .int .i64 xh, .bool false] 40)).alloc (.cells #[.int .i64 xv, .string xm, .int .i64 xp, .int .i64 xh, .bool false] 40)) from bw_alloc (bw_alloc HBW.out (.cells #[.int .i64 xv, .string xm, .int .i64 xp, .int .i64 xh, .bool false] 40)) (.cells #[.int .i64 xv, .string xm, .int .i64 xp, .int .i64 xh, .bool false] 40))
              clear hq hqq
              go_wp2_with (at_builtin; go_loud (refine wpList_append_row _ rfl _ _ rfl base u8 ((l.take j).filter (staysA now long)) [⟨xv, xm, xp, xh, false⟩] (some ⟨wr.heap.size + 1, 0, none⟩) 1 1 q rfl O1.out rfl rfl HQ.out.1 R1.out HL.out HZ.out ?_; intro a8 cap8 w2 hown2 hgrow2 hc8; have HE := Lib.hid (And.intro (show Own5 w2 base (.slice a8 q cap8) ((l.take (j + 1)).filter (staysA now long)) by rw [take_filter HX.out, if_pos HF.out]; exact (HQ.out.1 ▸ hown2)) (below_own hbase BX.out O1.out hgrow2))))
              exact ⟨⟨j + 1, by omega, by go_num, HE.out.1, HE.out.2⟩, by simp [intOf]; omega⟩
            · have HF := Lib.hid (show ¬ staysA now long ⟨xv, xm, xp, xh, false⟩ = true from by have hG := HG.out; unfold staysA; simp; try omega)
              go_wp2
              exact ⟨⟨j + 1, by omega, by go_num, by rw [take_filter HX.out, if_neg HF.out]; exact HO.out.alloc _, bw_alloc HBW.out _⟩, by simp [intOf]; omega⟩
      · obtain rfl : j = n := by omega
        have htk : (l.take j).filter (staysA now long) = l.filter (staysA now long) := by rw [List.take_of_length_le (by rw [HN.out]; exact Nat.le_refl _)]
        rw [htk] at HO
        obtain ⟨Q, hQ⟩ : ∃ Q, l.filter (staysA now long) = Q := ⟨_, rfl⟩
        have hQl : Q.length ≤ j := by rw [← hQ, ← HN.out]; exact List.length_filter_le _ _
        rw [hQ] at HO
        obtain ⟨a8, cap8, rfl, hc8, hr8⟩ := own_one HO.out (by omega)
        obtain ⟨N, hN⟩ : ∃ N, Q.length = N := ⟨_, rfl⟩
        have HQN := Lib.hid hN
        rw [hN] at hc8 hQl
        have HQQ := Lib.hid hQ
        have hkf := (kW.next hBW).free 1
        have hrz := rW.next hBW
        obtain ⟨z0, z1, z2⟩ := hrz.cells
        have f0 := hrz.free 0
        have f1 := hrz.free 1
        have f2 := hrz.free 2
        have hwN : IntKind.i64.wrap ((j : Int) - (N : Int)) = (j : Int) - (N : Int) := by rw [IntKind.wrap_i64]; omega
        have HRZ := Lib.hid hrz
        have HKW := Lib.hid (kW.next hBW)
        have HR8 := Lib.hid hr8
        have HBF := Lib.hid hB
        clear hrz hr8 hB htk hQ HO hN
        rw [HQN.out]
        go_wp2
        rw [HQQ.out, HQN.out]
        obtain ⟨Vf, hVf⟩ : ∃ V, V = (((wr.setCell ⟨b, 1, none⟩ (.slice a8 N cap8)).setCell ⟨b + 1, 0, none⟩ (.int .i64 room)).setCell ⟨b + 1, 1, none⟩ (.slice a8 N cap8)).setCell ⟨b + 1, 2, none⟩ (.int .i64 lr) := ⟨_, rfl⟩
        obtain ⟨⟨g0, g1, g2⟩, hrF, hBF⟩ := ends_tab (HRZ.out.other (c := b) (by omega) 1 _) ((HBF.out.trans (HBW.out.mono HBF.out.size)).setCell (p := ⟨b, 1, none⟩) hbw _) hbw1 (row_set1 HR8.out HKW.out 1 _) room N cap8 lr Vf hVf
        rw [← hVf]
        exact bodyPost_ret (v := .tuple #[rv room a8 N cap8 lr, .int .i64 ((j : Int) - (N : Int))]) (by simp [results, Try.results22, go_sem, g0, g1, g2]) rfl ⟨a8, cap8, by first | rfl | simp, hrF, hc8, hBF⟩
end Go.Proofs.Ytkpfdaomhkcokaa
