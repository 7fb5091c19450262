/-
  Layer 9: List: maps.Keys and slices.Sorted by the library's contracts, laid; the loop over the row.
-/
import Derived.Test.YtanciemiinbgmaaMiI
import Derived.Test.YtanciemiinbgmaaMiSh
namespace Go.Proofs.Ytanciemiinbgmaa
set_option linter.unusedVariables false
set_option linter.unusedSimpArgs false
open Go.RowKit Go.Maps Go.Sort Go.Shelf Pm Mm

theorem sortsIn (m : Nat) : AnyZI.SortsIn Try.prog Try.sortedE_ren Fence.wide m :=
  ⟨fun blk off cap ss W hH hblk hsz => callsIn_wide.2 (AnyM.slices_Sort_int Try.sortE blk off cap ss W hH hblk hsz),
   fun p cap W => callsIn_wide.2 (AnyM.slices_Sort_int_none Try.sortE p cap W)⟩
theorem keys_c (mb : Option Nat) (w : World) :
    Calls Try.prog 36 #[.map mb] w fun e w' => e = .returned (.func (.func 46) #[] #[.pointer (some ⟨w.heap.size, 0, none⟩)]) ∧ w' = w.alloc (.cells #[.map mb] 56) :=
  (callsIn_wide (n := 5)).1 (AnyZI.keys_in Try.keysE Fence.wide 5 trivial rfl mb w)
theorem sorted_c (Bm mb n : Nat) (f : Int → Int) (w : World) (hBm : Bm < w.heap.size) (hm : w.cell? ⟨Bm, 0, none⟩ = some (.map (some mb))) (h : IsMm w mb f n) (hn : n ≤ 100000) :
    Calls Try.prog 35 #[.func (.func 46) #[] #[.pointer (some ⟨Bm, 0, none⟩)]] w fun e w' =>
      ∃ (a : Option Addr) (cap : Nat) (l : List Int), e = .returned (.slice a l.length cap) ∧ IsRow w' a l.length l ∧ KeyRow f l ∧ l.length ≤ n ∧ Below w.heap.size w w' := by
  obtain ⟨D, hown, hR⟩ := h.own
  have hsz := hown.size_le
  have hmax : Maps.size D ≤ maxLen := by unfold maxLen; omega
  have hseq : SeqGives Fence.wide 2 Try.prog 46 #[.pointer (some ⟨Bm, 0, none⟩)] encZ (fun ss => ss.Perm (intKeys D)) (Maps.size D) w :=
    AnyZI.keys_gives (ρ := Try.keysE_ren) { Try.keysE with } Fence.wide _ trivial rfl (by omega) Bm mb n D _ hBm hm hown
  have cS := AnyZI.sorted_in Try.sortedE Fence.wide 5 trivial trivial trivial trivial rfl (by omega) (sortsIn _) (enters_of Try.func45 (by kernel_rfl) rfl) 46 #[.pointer (some ⟨Bm, 0, none⟩)] trivial (enters_of Try.func46 (by kernel_rfl) rfl) _ _ hmax (by omega) w hseq
  have cS' := (callsIn_wide (n := 5)).1 cS
  refine Calls.mono cS' ?_
  rintro e w' ⟨v, ss, rfl, hS, hrow, hnil, hb⟩
  have hlen : ss.length ≤ n := by
    have h1 := hS.length_eq
    obtain ⟨es, hD, _⟩ := hown.entries keyInt
    have h2 : (intKeys D).length = Maps.size D := by rw [hD]; show (es.map _).length = es.length; simp
    omega
  have hsl : (ss.mergeSort (fun x y => decide (x ≤ y))).length = ss.length := List.length_mergeSort ss
  obtain ⟨a, cap, rfl, hr, _, _⟩ := row_owned hrow hsl (by unfold maxLen; omega)
  refine ⟨a, cap, ss.mergeSort (fun x y => decide (x ≤ y)), by rw [hsl], by rw [hsl]; exact hr, keyRow_of hown hR hS, by omega, hb⟩

theorem own_next {w w' : World} {base size n : Nat} {T : TypeId} {v : Value} {xs : List Value} (h : w.ownsRow base T size v n xs) (hb : Below w.heap.size w w') : w'.ownsRow base T size v n xs := by
  refine ⟨h.1, ?_⟩
  rcases h.2 with h0 | ⟨g, cap, cur, hv, hbg, hg, h3⟩
  · exact .inl h0
  · exact .inr ⟨g, cap, cur, hv, hbg, (hb.block g (Array.getElem?_eq_some_iff.1 hg).1).trans hg, h3⟩
theorem own_block {w : World} {base size n : Nat} {T : TypeId} {v : Value} {xs : List Value} (h : w.ownsRow base T size v n xs) : Value.ownBlock v = none ∨ ∃ q, Value.ownBlock v = some q ∧ base ≤ q := by
  rcases h.2 with ⟨rfl, _⟩ | ⟨q, cc, cur, rfl, hq, _⟩
  · exact .inl rfl
  · exact .inr ⟨q, rfl, hq⟩
theorem below_grown {B : Nat} {a w w' : World} {row : Option Nat} (h : Below B a w) (hg : w.grownBy w' row) (hB : B ≤ w.heap.size) (hr : ∀ j, row = some j → B ≤ j) : Below B a w' := h.grown hg hB hr

/-- Behind j keys: those among them that are blocked. -/
def LInv (G : Gd) (l : List Int) (B : Nat) (W : World) (bl i : Value) (wr : World) : Prop :=
  ∃ j : Nat, j ≤ l.length ∧ i = .int .i64 (j : Nat) ∧ wr.ownsRow B 3 1 bl ((l.take j).filter (blockedG G)).length (((l.take j).filter (blockedG G)).map encZ) ∧ Below B W wr
theorem filter_step {l : List Int} {j : Nat} {v : Int} (G : Gd) (h : l[j]? = some v) : (l.take (j + 1)).filter (blockedG G) = (l.take j).filter (blockedG G) ++ (if blockedG G v then [v] else []) := by
  rw [take_at h, List.filter_append]
  congr 1
  cases hb : blockedG G v <;> simp [hb]
theorem filter_le (G : Gd) (l : List Int) (j : Nat) : ((l.take j).filter (blockedG G)).length ≤ l.length :=
  Nat.le_trans (List.length_filter_le _ _) (by rw [List.length_take]; omega)

set_option maxRecDepth 20000 in
set_option maxHeartbeats 2000000 in
theorem list_w (b mb : Nat) (a : Option Addr) (len cap : Nat) (g : Gd) (t : Int) (w : World) (h : IsG w b mb a len cap g) (ht : timeB t = true) (hmany : g.many ≤ 1000) :
    Calls Try.prog 13 #[.pointer (some ⟨b, 0, none⟩), .int .i64 t] w fun e w' =>
      ∃ (a' : Option Addr) (cap' : Nat), e = .returned (.slice a' (listG (atG g t)).length cap') ∧ IsRow w' a' (listG (atG g t)).length (listG (atG g t)) ∧ IsG w' b mb a len cap (atG g t) ∧ Kept2 b mb w w' := by
  have hG := goOn_w b mb a len cap g t w h ht
  have hmG : (atG g t).many ≤ 1000 := by rw [at_many]; exact hmany
  obtain ⟨G, hGd⟩ : ∃ G, atG g t = G := ⟨_, rfl⟩
  rw [hGd] at hG hmG ⊢
  have HM := Lib.hid hmG
  have HT := Lib.hid ht
  clear h ht hGd hmany hmG
  obtain ⟨i0, hi, hz0, hz1, hz2⟩ := info_parts infoI
  go_enter Try.func13, Try.ntmps13
  go_wp2_with (first
    | (go_at_call 27; refine (mtime_any t _).mono ?_; rintro e w' ⟨rfl, rfl⟩; rw [HT.out])
    | (go_at_call 28; refine hG.mono ?_; clear hG; rintro e w1 ⟨rfl, h1, k1⟩; have H1 := Lib.hid h1; have K1 := Lib.hid k1; obtain ⟨f, m1, hS1⟩ := h1.map; have c5 := h1.blk.cells.2.2.2.2.2.1; have HS1 := Lib.hid hS1; have M1 := Lib.hid m1; clear h1 k1 m1 hS1)
    | (go_at_call 36; refine (keys_c _ _).mono ?_; rintro e w2 ⟨rfl, rfl⟩)
    | (go_at_call 35; refine (sorted_c w1.heap.size mb _ f (w1.alloc (.cells #[.map (some mb)] 56)) (by simp) (cell_one_new w1 (.map (some mb)) 56 0 _ rfl) (M1.out.next (below_box _ _)) (by have := HM.out; omega)).mono ?_; rintro e w3 ⟨ka, kcap, l, rfl, kr, kk, kn, kb⟩))
  have hb13 : Below w1.heap.size w1 w3 := (below_box w1 _).trans (kb.mono (by simp))
  have H3 := Lib.hid (H1.out.next hb13)
  have K3 := Lib.hid (K1.out.trans (kept2_below hb13))
  have HL := Lib.hid (list_of_keys H1.out.ok HS1.out kk)
  have HE := Lib.hid (fun v => (says_blocked HS1.out v).symm)
  have hnl : l.length ≤ 2000 := by have := HM.out; omega
  have HI := Lib.hid kk.i64
  have HA := Lib.hid kr.at_
  have hsz3 := hb13.size
  clear hb13 kk kr kb kn c5 H1 K1 M1 HS1 HT hsz3
  go_loopw [5, 21] (fun bl i wr => LInv G l w3.heap.size w3 bl i wr) (fun _ i _ => l.length - (intOf i).toNat)
  case atStart => exact ⟨0, Nat.zero_le _, rfl, World.ownsRow_nil _ _ _ _, Below.refl _ _⟩
  case round =>
    obtain ⟨j, hj, rfl, hown, hB⟩ := hrel
    have HO := Lib.hid hown
    have HB := Lib.hid hB
    clear hown hB
    by_cases hjl : j < l.length
    · obtain ⟨v, hv⟩ := at_some (l := l) (k := j) hjl
      obtain ⟨x, off, rfl, hx, hc0⟩ := HA.out j v hv
      have hc := (HB.out.cell (p := ⟨x, off + j, none⟩) hx).trans hc0
      have hvi := HI.out v (mem_at hv)
      have HV := Lib.hid hv
      have HBl := Lib.hid (blocks_w b mb a len cap G v wr (H3.out.next HB.out) hvi)
      clear hc0 hv hvi
      cases hbv : blockedG G v with
      | false =>
        have HQ := Lib.hid hbv
        rw [hbv] at HBl
        clear hbv
        go_wp2_with (go_at_call 34; with_reducible refine (HBl.out).mono ?_; rintro e w5 ⟨rfl, hb5⟩)
        refine ⟨⟨j + 1, by omega, by go_num, ?_, HB.out.trans (hb5.mono HB.out.size)⟩, by simp [intOf]; omega⟩
        rw [filter_step G HV.out, HQ.out, if_neg Bool.false_ne_true, List.append_nil]
        exact own_next HO.out hb5
      | true =>
        have HQ := Lib.hid hbv
        rw [hbv] at HBl
        clear hbv
        have hfl := filter_le G l j
        go_wp2_with (first
          | (go_at_call 34; with_reducible refine (HBl.out).mono ?_; rintro e w5 ⟨rfl, hb5⟩; have O5 := own_next HO.out hb5; have B5 := HB.out.trans (hb5.mono HB.out.size); have hs5 := B5.size)
          | (at_builtin; refine wpList_append_lies _ (by rfl) _ _ _ (by rfl) w3.heap.size 3 i0 (.int .i64 0) 1 8 Try.underlying22 hi hz0 hz1 hz2 rfl (by decide) _ _ _ (by rfl) (O5.alloc _) ⟨w5.heap.size, 0, none⟩ 1 1 [encZ v] (by rfl) rfl (cell_one_new w5 (encZ v) 3) (by intro u hu; simp at hu; subst hu; rfl) (by decide) (by unfold maxLen; omega) (by omega) (by simp; omega) _ rfl ?_; intro g cap7 y hown hgrow hat hlt))
        have hO7 := own_block O5
        refine ⟨⟨j + 1, by omega, by go_num, ?_, ?_⟩, by simp [intOf]; omega⟩
        · rw [filter_step G HV.out, HQ.out, if_pos rfl, List.map_append, List.length_append]
          exact hown
        · refine (B5.trans ((below_box w5 _).mono hs5)).grown hgrow (by simp; omega) (fun q e => ?_)
          rcases hO7 with h0 | ⟨q', h0, h1⟩
          · rw [h0] at e; cases e
          · rw [h0] at e; cases e; exact h1
    · obtain rfl : j = l.length := by omega
      go_wp2
      obtain ⟨a', cap', rfl, hr, _, _⟩ := row_owned HO.out rfl (by have := filter_le G l l.length; unfold maxLen; omega)
      go_ret
      rw [List.take_length] at hr
      have e : l.filter (blockedG G) = listG G := by
        rw [← HL.out]
        congr 1
        funext v
        exact (HE.out v).symm
      rw [e] at hr
      refine ⟨a', cap', ?_, hr, H3.out.next HB.out, K3.out.trans (kept2_below HB.out)⟩
      rw [← e, List.take_length]
      rfl

set_option maxHeartbeats 400000 in
theorem list_bad (b : Nat) (t : Int) (w : World) (ht : timeB t = false) :
    Calls Try.prog 13 #[.pointer (some ⟨b, 0, none⟩), .int .i64 t] w fun e w' => e = .returned (.slice none 0 0) ∧ w = w' := by
  have HT := Lib.hid ht
  clear ht
  go_enter Try.func13, Try.ntmps13
  go_wp2_with (go_at_call 27; refine (mtime_any t _).mono ?_; rintro e w' ⟨rfl, rfl⟩; rw [HT.out])
  go_ret
  exact ⟨rfl, rfl⟩
end Go.Proofs.Ytanciemiinbgmaa
