/-
  Layer 11: what the document tells layer 8 of ports.
-/
import Derived.Test.YtlgeajmnanoabaaInP
import Derived.BigRegion
namespace Go.Proofs.Ytlgeajmnanoabaa
set_option linter.unusedVariables false
set_option linter.unusedSimpArgs false
open Go.RowKit Vm Rm Bm Im

def FInv (l : List Pt) (n base : Nat) (w : World) (o i : Value) (wr : World) : Prop :=
  ∃ k : Nat, k ≤ n ∧ i = .int .i64 (k : Nat) ∧ wr.ownsRow base 86 7 o k (cellsP (infosP (l.take k))) ∧ Below w.heap.size w wr ∧ base ≤ wr.heap.size

set_option maxRecDepth 20000 in
set_option maxHeartbeats 4000000 in
theorem rinfos_w (a : Option Addr) (cap : Nat) (l : List Pt) (w : World) (h : PRow w a l) (hok : ∀ p ∈ l, PtOk p) (hl : l.length ≤ 1000) :
    Calls Try.prog 18 #[.slice a l.length cap] w fun e w' => ∃ (a' : Option Addr) (cap' : Nat), e = .returned (.slice a' l.length cap') ∧ IRow w' a' (infosP l) ∧ Below w.heap.size w w' := by
  obtain ⟨n, hn⟩ : ∃ n, l.length = n := ⟨_, rfl⟩
  have HN := Lib.hid hn
  rw [hn] at hl ⊢
  have HA := Lib.hid h
  have HOK := Lib.hid (show ∀ x ∈ infosP l, InfOk x from fun x hx => by
    unfold infosP at hx
    obtain ⟨p, hp, rfl⟩ := List.mem_map.1 hx
    exact inf_ok (hok p hp))
  clear hn h hok
  go_enter Try.func18, Try.ntmps18
  go_wp2_with fail
  go_loopw [3, 4] (fun o i wr => FInv l n w.heap.size w o i wr) (fun _ i _ => n - (intOf i).toNat)
  case atStart => exact ⟨0, Nat.zero_le _, rfl, World.ownsRow_nil _ _ _ _, Below.refl _ _, Nat.le_refl _⟩
  case round =>
    obtain ⟨k, hk, rfl, hO, hG, hB⟩ := hrel
    obtain ⟨base, hbase⟩ : ∃ base, base = w.heap.size := ⟨_, rfl⟩
    by_cases hkl : k < n
    · obtain ⟨p, hx⟩ := at_some (l := l) (k := k) (by rw [HN.out]; exact hkl)
      obtain ⟨g, o, rfl, hgr, hcs⟩ := (HA.out.next hG).at_ k _ hx
      have hki : (k : Int) < n := by omega
      have hk0 : (0 : Int) ≤ k := by omega
      have HNX := Lib.hid (infos_next hx)
      have HO := Lib.hid hO
      have HG := Lib.hid hG
      rw [← hbase] at HO hB
      have HBA := Lib.hid hbase
      have c_id : wr.cell? ⟨g, o + k * 61, none⟩ = some (.int .u64 p.id) := hcs 0 _ rfl
      have c_cost : wr.cell? ⟨g, o + k * 61 + 1, none⟩ = some (.int .u64 p.cost) := hcs 1 _ rfl
      have c_on : wr.cell? ⟨g, o + k * 61 + 2, none⟩ = some (.bool p.on) := hcs 2 _ rfl
      have c_source : wr.cell? ⟨g, o + k * 61 + 5, none⟩ = some (.int .i64 p.source) := hcs 5 _ rfl
      have c_r : wr.cell? ⟨g, o + k * 61 + 6, none⟩ = some (.int .u64 p.vec.root) := hcs 6 _ rfl
      have c_c : wr.cell? ⟨g, o + k * 61 + 7, none⟩ = some (.int .u64 p.vec.cost) := hcs 7 _ rfl
      have c_b : wr.cell? ⟨g, o + k * 61 + 8, none⟩ = some (.int .u64 p.vec.bridge) := hcs 8 _ rfl
      have c_p : wr.cell? ⟨g, o + k * 61 + 9, none⟩ = some (.int .u64 p.vec.port) := hcs 9 _ rfl
      have hne : ¬ g = wr.heap.size := by omega
      clear hx hO hG hbase hcs HA
      obtain ⟨i0, hi, hz0, hz1, hz2⟩ := info_parts infoP8
      by_cases ho : p.on = true
      · rw [ho] at c_on
        by_cases hs : p.source = 3
        · have HI := Lib.hid (show infP p = ⟨p.id, p.cost, 3, p.vec⟩ by unfold infP; simp [ho, hs])
          rw [hs] at c_source
          clear ho hs
          go_upto_region 5 with (fail)
          go_region
          go_wp2_with (at_builtin; refine wpList_append_lies _ (by rfl) _ _ _ (by rfl) base 86 i0 (iv 0 0 0 0 0 0 0) 7 56 Try.underlying50 hi hz0 hz1 hz2 rfl (by decide) _ k _ (by rfl) (((HO.out.alloc (.cells #[.int .u64 p.id, .int .u64 p.cost, .int .i64 3, .int .u64 p.vec.root, .int .u64 p.vec.cost, .int .u64 p.vec.bridge, .int .u64 p.vec.port] 86)).alloc (.cells #[.int .u64 p.id, .int .u64 p.cost, .int .i64 3, .int .u64 p.vec.root, .int .u64 p.vec.cost, .int .u64 p.vec.bridge, .int .u64 p.vec.port] 86)).drew) ⟨wr.heap.size + 1, 0, none⟩ 1 1 [.int .u64 p.id, .int .u64 p.cost, .int .i64 3, .int .u64 p.vec.root, .int .u64 p.vec.cost, .int .u64 p.vec.bridge, .int .u64 p.vec.port] (by rfl) rfl (World.news_of_block (w := ((wr.alloc (.cells #[.int .u64 p.id, .int .u64 p.cost, .int .i64 3, .int .u64 p.vec.root, .int .u64 p.vec.cost, .int .u64 p.vec.bridge, .int .u64 p.vec.port] 86)).alloc (.cells #[.int .u64 p.id, .int .u64 p.cost, .int .i64 3, .int .u64 p.vec.root, .int .u64 p.vec.cost, .int .u64 p.vec.bridge, .int .u64 p.vec.port] 86)).drew) (heap_alloc2_new wr (.cells #[.int .u64 p.id, .int .u64 p.cost, .int .i64 3, .int .u64 p.vec.root, .int .u64 p.vec.cost, .int .u64 p.vec.bridge, .int .u64 p.vec.port] 86) (.cells #[.int .u64 p.id, .int .u64 p.cost, .int .i64 3, .int .u64 p.vec.root, .int .u64 p.vec.cost, .int .u64 p.vec.bridge, .int .u64 p.vec.port] 86))) (fun u hu => by simp at hu; rcases hu with rfl | rfl | rfl | rfl | rfl | rfl | rfl <;> rfl) (by decide) (by unfold maxLen; omega) (by omega) (by simp; omega) _ rfl ?_; intro g1 cap1 y1 hown1 hgrow hat hlt; have BY := (((bw_alloc (bw_alloc HG.out (.cells #[.int .u64 p.id, .int .u64 p.cost, .int .i64 3, .int .u64 p.vec.root, .int .u64 p.vec.cost, .int .u64 p.vec.bridge, .int .u64 p.vec.port] 86)) (.cells #[.int .u64 p.id, .int .u64 p.cost, .int .i64 3, .int .u64 p.vec.root, .int .u64 p.vec.cost, .int .u64 p.vec.bridge, .int .u64 p.vec.port] 86)).drew).grown hgrow (by simp; have := HG.out.size; omega) (fun x hx => by rw [← HBA.out]; exact (HO.out.lt x hx).1)); have HBY := Lib.hid BY; have HOY := Lib.hid hown1; have zy : base ≤ y1.heap.size := by have := hgrow.size; simp at this; omega)
          refine ⟨⟨k + 1, by omega, by go_num, ?_, HBY.out, by rw [← HBA.out]; exact zy⟩, by simp [intOf]; omega⟩
          rw [← HBA.out, HNX.out, cellsP_add, show infP p = ⟨p.id, p.cost, 3, p.vec⟩ from HI.out]
          exact HOY.out
        · have HI := Lib.hid (show infP p = ⟨p.id, p.cost, p.source, zeroV⟩ by unfold infP; simp [ho, hs])
          have z : (p.source == 3) = false := beq_eq_false_iff_ne.2 hs
          clear ho hs
          go_upto_region 5 with (fail)
          go_region
          go_wp2_with (at_builtin; refine wpList_append_lies _ (by rfl) _ _ _ (by rfl) base 86 i0 (iv 0 0 0 0 0 0 0) 7 56 Try.underlying50 hi hz0 hz1 hz2 rfl (by decide) _ k _ (by rfl) (((HO.out.alloc (.cells #[.int .u64 p.id, .int .u64 p.cost, .int .i64 p.source, .int .u64 0, .int .u64 0, .int .u64 0, .int .u64 0] 86)).alloc (.cells #[.int .u64 p.id, .int .u64 p.cost, .int .i64 p.source, .int .u64 0, .int .u64 0, .int .u64 0, .int .u64 0] 86)).drew) ⟨wr.heap.size + 1, 0, none⟩ 1 1 [.int .u64 p.id, .int .u64 p.cost, .int .i64 p.source, .int .u64 0, .int .u64 0, .int .u64 0, .int .u64 0] (by rfl) rfl (World.news_of_block (w := ((wr.alloc (.cells #[.int .u64 p.id, .int .u64 p.cost, .int .i64 p.source, .int .u64 0, .int .u64 0, .int .u64 0, .int .u64 0] 86)).alloc (.cells #[.int .u64 p.id, .int .u64 p.cost, .int .i64 p.source, .int .u64 0, .int .u64 0, .int .u64 0, .int .u64 0] 86)).drew) (heap_alloc2_new wr (.cells #[.int .u64 p.id, .int .u64 p.cost, .int .i64 p.source, .int .u64 0, .int .u64 0, .int .u64 0, .int .u64 0] 86) (.cells #[.int .u64 p.id, .int .u64 p.cost, .int .i64 p.source, .int .u64 0, .int .u64 0, .int .u64 0, .int .u64 0] 86))) (fun u hu => by simp at hu; rcases hu with rfl | rfl | rfl | rfl | rfl | rfl | rfl <;> rfl) (by decide) (by unfold maxLen; omega) (by omega) (by simp; omega) _ rfl ?_; intro g1 cap1 y1 hown1 hgrow hat hlt; have BY := (((bw_alloc (bw_alloc HG.out (.cells #[.int .u64 p.id, .int .u64 p.cost, .int .i64 p.source, .int .u64 0, .int .u64 0, .int .u64 0, .int .u64 0] 86)) (.cells #[.int .u64 p.id, .int .u64 p.cost, .int .i64 p.source, .int .u64 0, .int .u64 0, .int .u64 0, .int .u64 0] 86)).drew).grown hgrow (by simp; have := HG.out.size; omega) (fun x hx => by rw [← HBA.out]; exact (HO.out.lt x hx).1)); have HBY := Lib.hid BY; have HOY := Lib.hid hown1; have zy : base ≤ y1.heap.size := by have := hgrow.size; simp at this; omega)
          refine ⟨⟨k + 1, by omega, by go_num, ?_, HBY.out, by rw [← HBA.out]; exact zy⟩, by simp [intOf]; omega⟩
          rw [← HBA.out, HNX.out, cellsP_add, show infP p = ⟨p.id, p.cost, p.source, zeroV⟩ from HI.out]
          exact HOY.out
      · have ho' : p.on = false := by cases h : p.on; rfl; exact absurd h ho
        have HI := Lib.hid (show infP p = ⟨p.id, p.cost, 0, zeroV⟩ by unfold infP; simp [ho'])
        rw [ho'] at c_on
        clear ho ho'
        go_upto_region 5 with (fail)
        go_region
        go_wp2_with (at_builtin; refine wpList_append_lies _ (by rfl) _ _ _ (by rfl) base 86 i0 (iv 0 0 0 0 0 0 0) 7 56 Try.underlying50 hi hz0 hz1 hz2 rfl (by decide) _ k _ (by rfl) (((HO.out.alloc (.cells #[.int .u64 p.id, .int .u64 p.cost, .int .i64 0, .int .u64 0, .int .u64 0, .int .u64 0, .int .u64 0] 86)).alloc (.cells #[.int .u64 p.id, .int .u64 p.cost, .int .i64 0, .int .u64 0, .int .u64 0, .int .u64 0, .int .u64 0] 86)).drew) ⟨wr.heap.size + 1, 0, none⟩ 1 1 [.int .u64 p.id, .int .u64 p.cost, .int .i64 0, .int .u64 0, .int .u64 0, .int .u64 0, .int .u64 0] (by rfl) rfl (World.news_of_block (w := ((wr.alloc (.cells #[.int .u64 p.id, .int .u64 p.cost, .int .i64 0, .int .u64 0, .int .u64 0, .int .u64 0, .int .u64 0] 86)).alloc (.cells #[.int .u64 p.id, .int .u64 p.cost, .int .i64 0, .int .u64 0, .int .u64 0, .int .u64 0, .int .u64 0] 86)).drew) (heap_alloc2_new wr (.cells #[.int .u64 p.id, .int .u64 p.cost, .int .i64 0, .int .u64 0, .int .u64 0, .int .u64 0, .int .u64 0] 86) (.cells #[.int .u64 p.id, .int .u64 p.cost, .int .i64 0, .int .u64 0, .int .u64 0, .int .u64 0, .int .u64 0] 86))) (fun u hu => by simp at hu; rcases hu with rfl | rfl | rfl | rfl | rfl | rfl | rfl <;> rfl) (by decide) (by unfold maxLen; omega) (by omega) (by simp; omega) _ rfl ?_; intro g1 cap1 y1 hown1 hgrow hat hlt; have BY := (((bw_alloc (bw_alloc HG.out (.cells #[.int .u64 p.id, .int .u64 p.cost, .int .i64 0, .int .u64 0, .int .u64 0, .int .u64 0, .int .u64 0] 86)) (.cells #[.int .u64 p.id, .int .u64 p.cost, .int .i64 0, .int .u64 0, .int .u64 0, .int .u64 0, .int .u64 0] 86)).drew).grown hgrow (by simp; have := HG.out.size; omega) (fun x hx => by rw [← HBA.out]; exact (HO.out.lt x hx).1)); have HBY := Lib.hid BY; have HOY := Lib.hid hown1; have zy : base ≤ y1.heap.size := by have := hgrow.size; simp at this; omega)
        refine ⟨⟨k + 1, by omega, by go_num, ?_, HBY.out, by rw [← HBA.out]; exact zy⟩, by simp [intOf]; omega⟩
        rw [← HBA.out, HNX.out, cellsP_add, show infP p = ⟨p.id, p.cost, 0, zeroV⟩ from HI.out]
        exact HOY.out
    · obtain rfl : k = n := by omega
      rw [take_allP HN.out] at hO
      obtain ⟨a', cap', hv, hc, hr⟩ := irow_owned (l := infosP l) (by rw [infos_len, HN.out]; exact hO) HOK.out
      rw [infos_len, HN.out] at hv
      subst hv
      have HR := Lib.hid hr
      have HG := Lib.hid hG
      clear hO hr hG
      go_wp2
      go_ret
      exact ⟨a', cap', rfl, HR.out, HG.out⟩
end Go.Proofs.Ytlgeajmnanoabaa
