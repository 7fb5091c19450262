/-
  The library's sort at uint64: pdqsortOrdered, of a row of at most 16 numbers of which no two are the same; slices.Sort.
  A set of numbers, kept as a map; maps.Keys over it, slices.AppendSeq, Collect, Sorted: its numbers, rising.
  slices.Collect and slices.Sorted over the keys of a set of numbers: its numbers, rising.
-/
import Derived.Test.YtldobcfejldbiaaGreatDoorMbr
import Derived.Deep.DeepCutAuto
import Derived.RangeFuncNested
import Derived.RangeFuncBox
import Derived.RangeFuncLeaves
import Derived.Sort.MapsRangeIn
import Derived.Maps.AppendAt
import Derived.Maps.OwnSet
import Derived.Maps.RangeWalk
import Derived.Lib.SlKeysI
import Derived.Shelf.Abstract
import Derived.Shelf.AbstractIn
import Derived.OwnWalkIn
import Derived.TacticsInMore
import Derived.RegionIn
import Derived.LoopNIn
import Derived.LoopIn
import Derived.Test.YtldobcfejldbiaaGreatDoorMbb
namespace Go.Proofs.YtldobcfejldbiaaGreatDoor
set_option linter.unusedVariables false
set_option linter.unusedSimpArgs false
open Go.RowKit Go.Sort Sm

theorem break_w (g cap n a b L : Nat) (d : Array Int) (w : World) (h : SH w g d) (hn : d.size = n) (hb : b = a + L) (hL : L = 13 ∨ L = 14 ∨ L = 15 ∨ L = 16) (hbn : b ≤ n) (hn1 : n ≤ 1000) :
    Calls Tryz.prog 178 #[.slice (some ⟨g, 0, none⟩) n cap, .int .i64 ((a : Nat) : Int), .int .i64 ((b : Nat) : Int)] w fun e w' =>
      e = .returned (.tuple #[]) ∧ ∃ d', PermIn a b d d' ∧ SH w' g d' ∧ Kq g w w' := by
  subst hb
  rcases hL with rfl | rfl | rfl | rfl
  · exact break13_w g cap n a d w h hn hbn hn1
  · exact break14_w g cap n a d w h hn hbn hn1
  · exact break15_w g cap n a d w h hn hbn hn1
  · exact break16_w g cap n a d w h hn hbn hn1

set_option maxRecDepth 40000 in
set_option maxHeartbeats 8000000 in
theorem pdq_w : ∀ (N g cap n a b lim : Nat) (d : Array Int) (w : World), b - a ≤ N → SH w g d → d.size = n → n ≤ 16 → Apart d → a ≤ b → b ≤ n → Go.Sort.Below ltInt a b d → b ≤ a + lim + 11 → lim ≤ 64 →
    Calls Tryz.prog 143 #[.slice (some ⟨g, 0, none⟩) n cap, .int .i64 ((a : Nat) : Int), .int .i64 ((b : Nat) : Int), .int .i64 ((lim : Nat) : Int)] w fun e w' =>
      e = .returned (.tuple #[]) ∧ ∃ R, (PermIn a b d R ∧ SortedIn ltInt a b R) ∧ SH w' g R ∧ Kq g w w' := by
  intro N
  induction N with
  | zero =>
    intro g cap n a b lim d w hN h hn hn1 hA hab hb hB hl hl2
    have CI := Lib.hid (insertion_w g cap n a b d w h hn (by omega) hab hb)
    have HR := Lib.hid ((insertionSort_holds (lt := ltInt)) swo_ltInt d a b hab (by omega))
    have hba : (b : Int) - a ≤ 12 := by omega
    clear h hB hA
    go_enter Tryz.func143, Tryz.ntmps143
    go_wp2_with fail
    go_loopw [1, 2, 3, 8, 9] (fun v1 v2 v3 v8 v9 wr => v1 = .int .i64 (a : Int) ∧ v2 = .int .i64 (b : Int) ∧ v3 = .int .i64 (lim : Int) ∧ v8 = .bool true ∧ v9 = .bool true ∧ wr = w) (fun _ _ _ _ _ _ => 0)
    case atStart => exact ⟨rfl, rfl, rfl, rfl, rfl, rfl⟩
    case round =>
      obtain ⟨rfl, rfl, rfl, rfl, rfl, hw⟩ := hrel
      obtain rfl : w = wr := hw.symm
      go_wp2_with (go_at_call 176; (with_reducible refine CI.out.mono ?_); rintro e w1 ⟨rfl, hs1, hk1⟩)
      refine bodyPost_ret (results_none rfl _ _ _) rfl ?_
      exact ⟨rfl, _, HR.out, hs1, hk1⟩
  | succ N ih =>
    intro g cap n a b lim d w hN h hn hn1 hA hab hb hB hl hl2
    have IH := Lib.hid ih
    have H := Lib.hid h
    have HA := Lib.hid hA
    have HB := Lib.hid hB
    clear h hA hB ih
    go_enter Tryz.func143, Tryz.ntmps143
    go_wp2_with fail
    go_loopw [1, 2, 3, 8, 9] (fun v1 v2 v3 v8 v9 wr => ∃ (x y l : Nat) (wb wp : Bool) (e : Array Int), v1 = .int .i64 (x : Int) ∧ v2 = .int .i64 (y : Int) ∧ v3 = .int .i64 (l : Int) ∧ v8 = .bool wb ∧ v9 = .bool wp ∧ a ≤ x ∧ x ≤ y ∧ y ≤ b ∧ y ≤ x + l + 11 ∧ l ≤ 64 ∧ e.size = n ∧ Leads a b d x y e ∧ Go.Sort.Below ltInt x y e ∧ Apart e ∧ SH wr g e ∧ Kq g w wr)
      (fun v1 v2 _ _ _ _ => (RowKit.intOf v2).toNat - (RowKit.intOf v1).toNat)
    case atStart => exact ⟨a, b, lim, true, true, d, rfl, rfl, rfl, rfl, rfl, Nat.le_refl _, hab, Nat.le_refl _, hl, hl2, hn, leads_refl a b d, HB.out, HA.out, H.out, Kq.refl g w⟩
    case round =>
      obtain ⟨x, y, l, wb, wp, e, rfl, rfl, rfl, rfl, rfl, hax, hxy, hyb, hxl, hl64, hes, hld, hBe, hAe, hse, hk⟩ := hrel
      have LD := Lib.hid hld
      have BE := Lib.hid hBe
      have AE := Lib.hid hAe
      have SE := Lib.hid hse
      have KE := Lib.hid hk
      clear hld hBe hAe hse hk
      by_cases h12 : y ≤ x + 12
      · have h12i : (y : Int) - x ≤ 12 := by omega
        have CI := Lib.hid (insertion_w g cap n x y e wr SE.out hes (by omega) hxy (by omega))
        have HR := Lib.hid (LD.out _ ((insertionSort_holds (lt := ltInt)) swo_ltInt e x y hxy (by omega)).1 ((insertionSort_holds (lt := ltInt)) swo_ltInt e x y hxy (by omega)).2)
        go_wp2_with (go_at_call 176; (with_reducible refine CI.out.mono ?_); rintro e1 w1 ⟨rfl, hs1, hk1⟩)
        refine bodyPost_ret (results_none rfl _ _ _) rfl ?_
        exact ⟨rfl, _, HR.out, hs1, KE.out.trans hk1⟩
      · have h12i : ¬ (y : Int) - x ≤ 12 := by omega
        obtain ⟨L, hL⟩ : ∃ L, y - x = L := ⟨_, rfl⟩
        have hyx : y = x + L := by omega
        have hL4 : L = 13 ∨ L = 14 ∨ L = 15 ∨ L = 16 := by omega
        have HYX := Lib.hid hyx
        have HL4 := Lib.hid hL4
        have hl0 : ((l : Int) == 0) = false := beq_eq_false_iff_ne.2 (by omega)
        clear hL hyx hL4
        go_upto_if 35 with (fail)
        go_cut [3] (fun v wx => ∃ (l1 : Nat) (e1 : Array Int), v = .int .i64 (l1 : Int) ∧ y ≤ x + l1 + 12 ∧ l1 ≤ 64 ∧ PermIn x y e e1 ∧ SH wx g e1 ∧ Kq g w wx)
        case first =>
          cases wb with
          | true =>
            go_wp2_with fail
            go_meet
            exact ⟨l, e, rfl, by omega, hl64, permIn_refl e x y, SE.out, KE.out⟩
          | false =>
            go_wp2_with fail
            refine (break_w g cap n x y L e wr SE.out hes HYX.out HL4.out (by omega) (by omega)).mono ?_
            rintro e0 w1 ⟨rfl, e1, hp1, hs1, hk1⟩
            go_wp2_with fail
            go_meet
            exact ⟨l - 1, e1, by congr 1; omega, by omega, by omega, hp1, hs1, KE.out.trans hk1⟩
        case rest =>
          obtain ⟨l1, e1, rfl, hxl1, hl65, hp1, hs1, hk1⟩ := hcut
          have he1 : e1.size = n := hp1.1.trans hes
          have LD1 := Lib.hid (LD.out.perm hp1)
          have BE1 := Lib.hid (BE.out.permA permIn_all (by omega) hp1)
          have AE1 := Lib.hid (AE.out.perm (by omega) hp1)
          have SE1 := Lib.hid hs1
          have KE1 := Lib.hid hk1
          clear hp1 hs1 hk1 LD BE AE SE KE
          go_wp2_with fail
          refine (pivot_w g cap n x y L e1 wc SE1.out he1 HYX.out HL4.out (by omega) (by omega)).mono ?_
          rintro e0 w1 ⟨p, t, rfl, hp, ht, hb1⟩
          have SE2 := Lib.hid (SE1.out.next hb1)
          have KE2 := Lib.hid (KE1.out.trans (Kq.of hb1))
          clear hb1 SE1 KE1
          have ht2 : (t == 2) = false := beq_eq_false_iff_ne.2 (by omega)
          go_upto_region 15 with (fail)
          go_cut [68] (fun v wx => ∃ c : Bool, v = .bool c ∧ wx = w1)
          case first =>
            cases wb
            · go_wp2_with fail
              go_meet
              exact ⟨_, rfl, rfl⟩
            · cases wp
              · go_wp2_with fail
                go_meet
                exact ⟨_, rfl, rfl⟩
              · go_wp2_with fail
                go_meet
                exact ⟨_, rfl, rfl⟩
          case rest =>
            obtain ⟨c, rfl, hw⟩ := hcut
            obtain rfl : w1 = wc := hw.symm
            go_upto_if 68 with (fail)
            go_cut [69] (fun _ wx => SH wx g e1 ∧ Kq g w wx)
            case first =>
              cases c with
              | true =>
                go_wp2_with fail
                refine (partial_w g cap n x y e1 w1 SE2.out he1 (by omega) (by omega) (by omega) (by omega)).mono ?_
                rintro e0 w2 ⟨R, rfl, hR, q, rfl⟩
                cases R with
                | true =>
                  have HRR := Lib.hid (LD1.out e1 (permIn_refl e1 x y) (hR rfl))
                  go_wp2_with fail
                  refine bodyPost_ret (results_none rfl _ _ _) rfl ?_
                  exact ⟨rfl, e1, HRR.out, SE2.out.drewN q, KE2.out.drewN q⟩
                | false =>
                  go_wp2_with fail
                  go_meet
                  exact ⟨SE2.out.drewN q, KE2.out.drewN q⟩
              | false =>
                go_wp2_with fail
                go_meet
                exact ⟨SE2.out, KE2.out⟩
            case rest =>
              obtain ⟨hs3, hk3⟩ := hcut
              have SE3 := Lib.hid hs3
              have KE3 := Lib.hid hk3
              clear hs3 hk3 SE2 KE2
              go_upto_region 17 with (fail)
              go_cut [87] (fun v wx => v = .bool false ∧ SH wx g e1 ∧ Kq g w wx)
              case first =>
                obtain ⟨G, hG⟩ : ∃ G : Nat → Int, ∀ t, G t = e1[t]! := ⟨fun t => e1[t]!, fun _ => rfl⟩
                by_cases hx0 : 0 < x
                · have hx0i : (0 : Int) < x := by omega
                  have b1 : (x : Int) - 1 < n := by omega
                  have b2 : (0 : Int) ≤ (x : Int) - 1 := by omega
                  have b3 : (p : Int) < n := by omega
                  have b4 : (0 : Int) ≤ (p : Int) := by omega
                  have c1 : wc.cell? ⟨g, x - 1, none⟩ = some (.int .u64 (G (x - 1))) := by rw [hG]; exact SE3.out.cell (by omega)
                  have c2 : wc.cell? ⟨g, p, none⟩ = some (.int .u64 (G p)) := by rw [hG]; exact SE3.out.cell (by omega)
                  have hl : ltInt (G (x - 1)) (G p) = true := by rw [hG, hG]; exact below_less AE1.out BE1.out hx0 (by omega) (by omega) (by omega)
                  clear hG
                  go_big_quiet (first | (go_at_call 182; refine Calls.quiet_of_same (less_u64 _ _ _)))
                  go_wp2_with fail
                  go_meet
                  exact ⟨rfl, SE3.out.drewN _, KE3.out.drewN _⟩
                · have cb : decide ((x : Int) > (0 : Int)) = false := decide_eq_false (by omega)
                  clear hG
                  go_big_quiet (fail)
                  go_wp2_with fail
                  go_meet
                  exact ⟨rfl, SE3.out.drewN _, KE3.out.drewN _⟩
              case rest =>
                obtain ⟨rfl, hs4, hk4⟩ := hcut
                have SE4 := Lib.hid hs4
                have KE4 := Lib.hid hk4
                clear hs4 hk4 SE3 KE3
                go_wp2_with fail
                refine (partition_w g cap n x y p e1 _ SE4.out he1 (by omega) (by omega) (by omega) (by omega)).mono ?_
                rintro e0 w5 ⟨m, ap, e4, rfl, hpt, hs5, hk5⟩
                obtain ⟨m1, m2, hp4, hB1, hB2, hL1, hL2⟩ := leads_part LD1.out hp.1 hp.2 (by omega) BE1.out hpt
                have AE4 := Lib.hid (AE1.out.perm (by omega) hp4)
                have he4 : e4.size = n := hp4.1.trans he1
                have SE5 := Lib.hid hs5
                have KE5 := Lib.hid (KE4.out.trans hk5)
                have B1 := Lib.hid hB1
                have B2 := Lib.hid hB2
                have L1 := Lib.hid hL1
                have L2 := Lib.hid hL2
                clear hpt hs5 hk5 hp4 hB1 hB2 hL1 hL2 SE4 KE4 LD1 BE1 AE1
                by_cases hmm : m - x < y - m
                · have hmi : (m : Int) - x < (y : Int) - m := by omega
                  have IHX := Lib.hid (IH.out g cap n x m l1 e4 w5 (by omega) SE5.out he4 hn1 AE4.out m1 (by omega) B1.out (by omega) hl65)
                  go_wp2_with fail
                  refine IHX.out.mono ?_
                  rintro e0 w6 ⟨rfl, R, hR, hs6, hk6⟩
                  obtain ⟨k1, k2⟩ := L1.out R hR.1 hR.2
                  have AR := Lib.hid (AE4.out.perm (by omega) hR.1)
                  go_wp2_with fail
                  exact ⟨⟨m + 1, y, l1, _, ap, R, by go_num, rfl, rfl, rfl, rfl, by omega, by omega, by omega, by omega, by omega, hR.1.1.trans he4, k2, k1, AR.out, hs6, KE5.out.trans hk6⟩, by simp [RowKit.intOf]; omega⟩
                · have hmi : ¬ (m : Int) - x < (y : Int) - m := by omega
                  have hm1 : ((m + 1 : Nat) : Int) = (m : Int) + 1 := by omega
                  have IHX := Lib.hid (IH.out g cap n (m + 1) y l1 e4 w5 (by omega) SE5.out he4 hn1 AE4.out (by omega) (by omega) B2.out (by omega) hl65)
                  rw [hm1] at IHX
                  go_wp2_with fail
                  refine IHX.out.mono ?_
                  rintro e0 w6 ⟨rfl, R, hR, hs6, hk6⟩
                  obtain ⟨k1, k2⟩ := L2.out R hR.1 hR.2
                  have AR := Lib.hid (AE4.out.perm (by omega) hR.1)
                  go_wp2_with fail
                  exact ⟨⟨x, m, l1, _, ap, R, rfl, rfl, rfl, rfl, rfl, by omega, by omega, by omega, by omega, by omega, hR.1.1.trans he4, k2, k1, AR.out, hs6, KE5.out.trans hk6⟩, by simp [RowKit.intOf]; omega⟩

set_option maxHeartbeats 2000000 in
/-- slices.Sort, of a row in a block of its own. -/
theorem sort_w (g cap : Nat) (l : List Int) (w : World) (h : SH w g l.toArray) (hl : l.length ≤ 16) (hd : l.Nodup) :
    Calls Tryz.prog 99 #[.slice (some ⟨g, 0, none⟩) l.length cap] w fun e w' =>
      e = .returned (.tuple #[]) ∧ SH w' g (l.mergeSort (fun x y => decide (x ≤ y))).toArray ∧ Kq g w w' := by
  obtain ⟨n, hn⟩ : ∃ n, l.length = n := ⟨_, rfl⟩
  have HN := Lib.hid hn
  have hs : l.toArray.size = n := by simpa using hn
  have hls : 0 + (lenS n) + 11 ≥ n := by
    unfold lenS
    repeat' split
    all_goals omega
  have hl5 : lenS n ≤ 64 := by
    unfold lenS
    repeat' split
    all_goals omega
  have CP := Lib.hid (fun w' (h' : SH w' g l.toArray) => pdq_w n g cap n 0 n (lenS n) l.toArray w' (by omega) h' hs (by omega) (show l.toArray.toList.Nodup by simpa using hd) (by omega) (Nat.le_refl _) (.inl rfl) hls hl5)
  have H := Lib.hid h
  have CL := Lib.hid (fun w' => len_w n (by omega) w')
  rw [hn] at hl ⊢
  have hni : (n : Int) ≤ 16 := by omega
  clear h hn hs hls hl5 hd
  go_enter Tryz.func99, Tryz.ntmps99
  go_wp2_with fail
  refine (CL.out _).mono ?_
  rintro e w1 ⟨rfl, rfl⟩
  go_wp2_with fail
  refine (CP.out _ H.out).mono ?_
  rintro e w2 ⟨rfl, R, ⟨hR1, hR2⟩, hs2, hk2⟩
  go_wp2_with fail
  go_end0
  refine ⟨rfl, ?_, hk2⟩
  have := sorted_all (l := l) (R := R) (by rw [HN.out]; exact hR1) (by rw [HN.out]; exact hR2)
  rw [← this]
  exact hs2
end Go.Proofs.YtldobcfejldbiaaGreatDoor

namespace Go.Proofs.YtldobcfejldbiaaGreatDoor
set_option linter.unusedVariables false
set_option linter.unusedSimpArgs false
open Go.RowKit Go.Maps Go.Shelf
attribute [local go_sem] Oper.semAt_some

abbrev zu (n : Int) : Lit := .int .u64 n
abbrev encU64 (n : Int) : Value := .int .u64 n
theorem keyU : Keyed Tryz.prog 22 := int_keyed Tryz.underlying22
theorem keyU_inv {key : Value} {kl : Lit} (h : keyOf Tryz.prog 22 key = some kl) : ∃ x : Int, key = encU64 x ∧ kl = zu x ∧ (Lit.int .u64 x).wf = true := by
  cases key <;> simp [keyOf, Tryz.underlying22, mapKey] at h
  rename_i q a
  obtain ⟨⟨rfl, hw⟩, rfl⟩ := h
  exact ⟨a, rfl, rfl, hw⟩
theorem keyU_mk {n : Int} (h : Vm.u64B n) : keyOf Tryz.prog 22 (encU64 n) = some (zu n) := keyOf_int_mk Tryz.underlying22 (by
  obtain ⟨h0, h1⟩ := h
  have e1 : IntKind.u64.min = 0 := by decide
  have e2 : IntKind.u64.max = 18446744073709551615 := by decide
  simp [Lit.wf, e1, e2]
  omega)
/-- What reads so has just these keys. -/
def Holds1 (D : DataW Unit) (f : List Int) : Prop := ∀ x, Maps.has D (zu x) = true ↔ x ∈ f
theorem keys_of {w : World} {mb n : Nat} {D : DataW Unit} (h : w.ownsMap (H := Unit) Tryz.prog 22 unitElem mb n D) : (intKeys D).Nodup ∧ (∀ x, x ∈ intKeys D ↔ Maps.has D (zu x) = true) ∧ Maps.size D = (intKeys D).length := by
  obtain ⟨es, hD, hpw, _⟩ := h.entries keyU
  obtain ⟨es', hD', hko⟩ := h.keysOf
  obtain rfl : es = es' := by rw [hD] at hD'; simpa using hD'
  subst hD
  have hk : ∀ p ∈ es, ∃ x, p.1 = .int .u64 x := fun p hp => by obtain ⟨v, hv⟩ := hko p hp; obtain ⟨x, _, hx, _⟩ := keyU_inv hv; exact ⟨x, hx⟩
  refine ⟨?_, fun x => ?_, ?_⟩
  · show (es.map fun p => Go.intOf p.1).Nodup
    refine List.pairwise_map.2 (hpw.imp_of_mem fun {p q} hp' hq' hne e => hne ?_)
    obtain ⟨a, ha⟩ := hk p hp'
    obtain ⟨b, hb⟩ := hk q hq'
    rw [ha, hb] at e ⊢
    exact congrArg _ e
  · rw [has_eq, List.any_eq_true]
    show x ∈ es.map (fun p => Go.intOf p.1) ↔ _
    rw [List.mem_map]
    constructor
    · rintro ⟨p, hp', rfl⟩
      obtain ⟨a, ha⟩ := hk p hp'
      exact ⟨p, hp', by rw [ha]; simp [Lit.sameKey, Go.intOf]⟩
    · rintro ⟨p, hp', hs⟩
      obtain ⟨a, ha⟩ := hk p hp'
      rw [ha] at hs
      exact ⟨p, hp', by rw [ha]; simpa [Lit.sameKey, Go.intOf] using hs⟩
  · show es.length = (es.map fun p => Go.intOf p.1).length
    rw [List.length_map]
theorem size_of {w : World} {mb n : Nat} {D : DataW Unit} {f : List Int} (h : w.ownsMap (H := Unit) Tryz.prog 22 unitElem mb n D) (hf : Holds1 D f) (hn : f.Nodup) : Maps.size D = f.length := by
  obtain ⟨h1, h2, h3⟩ := keys_of h
  rw [h3]
  exact ((List.perm_ext_iff_of_nodup h1 hn).2 fun x => by rw [h2 x, hf x]).length_eq
/-- Block mb is a map that holds just these numbers, rising. -/
structure IsFm (w : World) (mb : Nat) (f : List Int) : Prop where
  own : ∃ (D : DataW Unit) (n : Nat), n ≤ 100000 ∧ w.ownsMap (H := Unit) Tryz.prog 22 unitElem mb n D ∧ Holds1 D f
  rise : f.Pairwise (· < ·)
  few : f.length ≤ 16
  u64 : ∀ x ∈ f, Vm.u64B x
theorem IsFm.lt {w : World} {mb : Nat} {f : List Int} (h : IsFm w mb f) : mb < w.heap.size := by
  obtain ⟨D, n, _, h1, _⟩ := h.own
  exact h1.lt
theorem IsFm.same {w w' : World} {mb : Nat} {f : List Int} (h : IsFm w mb f) (hb : w'.heap[mb]? = w.heap[mb]?) : IsFm w' mb f := by
  obtain ⟨D, n, hn, ⟨es, clock, hbk, F, hs, hD⟩, h2⟩ := h.own
  exact ⟨⟨D, n, hn, ⟨es, clock, hb.trans hbk, F, hs, hD⟩, h2⟩, h.rise, h.few, h.u64⟩
theorem IsFm.next {w w' : World} {mb : Nat} {f : List Int} (h : IsFm w mb f) (hb : Below w.heap.size w w') : IsFm w' mb f := h.same (hb.block mb h.lt)
theorem IsFm.nodup {w : World} {mb : Nat} {f : List Int} (h : IsFm w mb f) : f.Nodup := h.rise.imp fun hlt e => by omega
theorem fm_made (w : World) : IsFm (w.alloc (.map #[] 0)) w.heap.size [] :=
  ⟨⟨.map [], 0, by omega, World.ownsMap_made _ _ _ _, fun x => by simp [Maps.has]⟩, List.Pairwise.nil, by simp, by simp⟩

/-- What has come, what is still to come. -/
def ComeU (D0 : DataW Unit) (left : Lit → Bool) (ss : List Int) : Prop := ss.Nodup ∧ ∀ x, x ∈ ss ↔ (Maps.has D0 (zu x) = true ∧ left (zu x) = false)
theorem ComeU.start (D0 : DataW Unit) : ComeU D0 (Maps.has D0) [] := ⟨List.nodup_nil, fun x => by cases Maps.has D0 (zu x) <;> simp⟩
theorem ComeU.step {D0 : DataW Unit} {left : Lit → Bool} {ss : List Int} (h : ComeU D0 left ss) {x : Int} {y : DataW Unit} (hlk : left (zu x) = true) (hat : ∀ zd, D0.atKey (zu x) zd = y) : ComeU D0 (fun z => left z && !z.sameKey (zu x)) (ss ++ [x]) := by
  have hhas : Maps.has D0 (zu x) = true := has_true_of_atKey hat
  have hnew : x ∉ ss := fun hx => by have := ((h.2 x).1 hx).2; rw [hlk] at this; cases this
  refine ⟨List.nodup_append.2 ⟨h.1, by simp, fun a ha b hb => by simp at hb; subst hb; exact fun e => hnew (e ▸ ha)⟩, fun y => ?_⟩
  by_cases hy : y = x
  · subst hy; simp [hhas, Lit.sameKey]
  · simp [h.2 y, hy, Lit.sameKey]
theorem ComeU.perm {D0 : DataW Unit} {left : Lit → Bool} {ss f : List Int} (h : ComeU D0 left ss) (hf : Holds1 D0 f) (hn : f.Nodup) (hl : ∀ kl, left kl = false) : ss.Perm f :=
  (List.perm_ext_iff_of_nodup h.1 hn).2 fun x => by rw [h.2 x, hl, hf x]; simp

set_option maxRecDepth 100000 in
set_option maxHeartbeats 1000000 in
theorem keys1U_in (F : Fence) (n : Nat) (h8 : F.fn 100) (hro : F.round = none) (hn : 1 ≤ n) (l Bm b : Nat) (f : List Int) (D : DataW Unit) (nn : Nat)
    (hf : Holds1 D f) (hnd : f.Nodup) (J Jx : List Int → World → Prop)
    (hY : ∀ pre x W, J pre W → pre.length < f.length → YieldAt F (n - 1) Tryz.prog l #[encU64 x] W fun e W' =>
      (e = .returned (.bool true) ∧ J (pre ++ [x]) W' ∧ KeepsWalks W W') ∨ (e = .returned (.bool false) ∧ Jx (pre ++ [x]) W'))
    (W : World) (hJ : AbidesFrom W.heap.size J) (hm : W.cell? ⟨Bm, 0, none⟩ = some (.map (some b))) (hown : W.ownsMap (H := Unit) Tryz.prog 22 unitElem b nn D) (h0 : J [] W) :
    CallsIn F n Tryz.prog 100 #[.func (.yield l) #[] #[], .pointer (some ⟨Bm, 0, none⟩)] W fun e W' => (∃ v, e = .returned v) ∧
      ((∃ xs : List Int, xs.Perm f ∧ J xs W') ∨ (∃ pre : List Int, True ∧ Jx pre W')) := by
  refine callsIn_of_wp Tryz.func100 rfl h8 ?_ hro
  simp only [Tryz.ntmps100, List.size_toArray, List.length_cons, List.length_nil, Nat.reduceAdd, Nat.reduceSub, Array.replicate_succ, Array.replicate_zero, List.push_toArray, List.append_toArray, List.nil_append, List.cons_append]
  gi_wp2_with (first
    | (gi_at_range; refine wpListIn_range_own _ rfl _ 88 rfl 22 89 keyU Tryz.underlying88 _ b nn _ rfl hown ?_; intro w0 hrg0 hg0 hs0)
    | gi_in)
  go_frame
  gi_loopw [3] (fun _ wr => ∃ (left : Lit → Bool) (cnt : Nat) (ps : List Int), wr.ranges Tryz.prog 22 unitElem b W.heap.size nn D left cnt ∧ ps.length + cnt ≤ f.length ∧ ComeU D left ps ∧ J ps wr ∧ W.heap.size ≤ wr.heap.size)
    (fun _ wr => wr.rangeLeft b W.heap.size)
  case atStart =>
    exact ⟨_, _, [], hrg0, by rw [size_of hown hf hnd]; simp, ComeU.start D, hJ [] W w0 none h0 hg0 (fun r e => by cases e), hg0.size⟩
  case round =>
    obtain ⟨left, cnt, ps, hrg, hcs, hC, hJs, hsz⟩ := hrel
    gi_wp2_with (first
      | (gi_at_next; refine wpListIn_next_ranges _ rfl _ rfl 22 keyU unitElem encU64 id (fun key kl hk => by obtain ⟨x, hx, _⟩ := keyU_inv hk; exact ⟨x, hx⟩) (fun v _ _ => ⟨v, rfl⟩) b W.heap.size nn _ _ _ rfl hrg ?_ ?_)
      | gi_in)
    · intro hc0 hl0
      gi_wp2
      go_end0
      exact ⟨⟨_, rfl⟩, .inl ⟨ps, hC.perm hf hnd hl0, hJs⟩⟩
    · intro x c kl yd yp w2 cnt2 hkey hlk hv hat hrg2 hlt hg2 hs2 hen
      obtain ⟨x', ex, rfl, _⟩ := keyU_inv hkey
      obtain rfl : x = x' := by simpa [encU64] using ex
      have hJ2 : J ps w2 := hJ ps wr w2 (some W.heap.size) hJs hg2 (fun r e => by cases e; exact ⟨Nat.le_refl _, hrg.iter_walk⟩)
      have hC2 := hC.step hlk hat
      clear hs2 ex hv hat
      obtain ⟨fn, tmps, assign, body, hy, hR⟩ := hY ps x w2 hJ2 (by omega)
      gi_wp2
      refine hR.mono ?_
      rintro e W3 (⟨rfl, hJ3, hk3⟩ | ⟨rfl, hJx3⟩)
      · gi_wp2
        have hrg3 := hrg2.of_walks hk3
        go_roundw
        case rel => exact ⟨_, cnt2, ps ++ [x], hrg3, by simp; omega, hC2, hJ3, Nat.le_trans hsz (Nat.le_trans hg2.size hk3.size)⟩
        case measure => rw [hrg3.left_eq, hrg.left_eq]; exact hlt
      · gi_wp2
        refine bodyPost_ret (results_none rfl _ _ _) rfl ?_
        exact ⟨⟨_, rfl⟩, .inr ⟨ps ++ [x], trivial, hJx3⟩⟩

set_option maxHeartbeats 1000000 in
theorem keysU_in (F : Fence) (n : Nat) (hf : F.fn 53) (hro : F.round = none) (mb : Option Nat) (w : World) :
    CallsIn F n Tryz.prog 53 #[.map mb] w fun e w' => e = .returned (.func (.func 100) #[] #[.pointer (some ⟨w.heap.size, 0, none⟩)]) ∧ w' = w.alloc (.cells #[.map mb] 88) := by
  refine callsIn_of_wp Tryz.func53 rfl hf ?_ hro
  simp only [Tryz.ntmps53, List.size_toArray, List.length_cons, List.length_nil, Nat.reduceAdd, Nat.reduceSub, Array.replicate_succ, Array.replicate_zero, List.push_toArray, List.append_toArray, List.nil_append, List.cons_append]
  gi_wp2
  go_ret
  exact ⟨rfl, rfl⟩

theorem keysU_stops (F : Fence) (n : Nat) (h8 : F.fn 100) (hro : F.round = none) (hn : 1 ≤ n) (Bm b : Nat) (f : List Int) (w : World) (hBm : Bm < w.heap.size)
    (hm : w.cell? ⟨Bm, 0, none⟩ = some (.map (some b))) (hmp : IsFm w b f) :
    SeqStopsK F n Tryz.prog 100 #[.pointer (some ⟨Bm, 0, none⟩)] (fun x : Int => #[encU64 x]) KeepsWalks (fun xs => xs.Perm f) (fun _ => True) f.length w := fun l J Jx W hW hJ hJx hY h0 => by
  obtain ⟨D, nn, hnn, hown, hA⟩ := hmp.own
  have hown' : W.ownsMap (H := Unit) Tryz.prog 22 unitElem b nn D := by
    have hbl := hown.lt
    obtain ⟨es, clock, hb, Ft, hs, hD⟩ := hown
    exact ⟨es, clock, (hW.block b hbl).trans hb, Ft, hs, hD⟩
  exact keys1U_in F n h8 hro hn l Bm b f D nn hA hmp.nodup J Jx hY W hJ ((hW.cell (p := ⟨Bm, 0, none⟩) hBm).trans hm) hown' h0

theorem infoU64k : (Tryz.prog.info? 22).map (fun i => (i.zero, i.size, i.bytes)) = some (some (.int .u64 0), 1, 8) := by kernel_rfl

set_option maxRecDepth 100000 in
set_option maxHeartbeats 4000000 in
theorem appendSeqU_in (F : Fence) (n : Nat) (h58 : F.fn 142) (h46 : F.fn 100) (hro : F.round = none) (hn : 3 ≤ n) (Bm b : Nat) (f : List Int) (w : World) (hBm : Bm < w.heap.size)
    (hm : w.cell? ⟨Bm, 0, none⟩ = some (.map (some b))) (hmp : IsFm w b f) :
    CallsIn F n Tryz.prog 142 #[.slice none 0 0, .func (.func 100) #[] #[.pointer (some ⟨Bm, 0, none⟩)]] w fun e W' =>
      ∃ (v : Value) (xs : List Int), e = .returned v ∧ xs.Perm f ∧ W'.ownsRow w.heap.size 22 1 v xs.length (xs.map encU64) ∧ Below w.heap.size w W' := by
  have h1 : 1 ≤ n := by omega
  have hfew := hmp.few
  obtain ⟨i0, hi, hz0, hz1, hz2⟩ := info_parts infoU64k
  refine callsIn_of_wp_marks Tryz.func142 rfl h58 ?_ hro
  simp only [Tryz.ntmps142, List.size_toArray, List.length_cons, List.length_nil, Nat.reduceAdd, Nat.reduceSub, Array.replicate_succ, Array.replicate_zero, List.push_toArray, List.append_toArray, List.nil_append, List.cons_append]
  gi_wp2
  have bO := Go.Boxed.new w 39 (.slice none 0 0)
  have hB0 : Below w.heap.size w (w.alloc (.cells #[.slice none 0 0] 39)) := below_box w _
  have hsz : (w.alloc (.cells #[.slice none 0 0] 39)).heap.size = w.heap.size + 1 := by simp
  have hmp0 : IsFm (w.alloc (.cells #[.slice none 0 0] 39)) b f := hmp.next hB0
  have hm0 := (hB0.cell (p := ⟨Bm, 0, none⟩) hBm).trans hm
  obtain ⟨W0, hW0⟩ : ∃ W0, w.alloc (.cells #[.slice none 0 0] 39) = W0 := ⟨_, rfl⟩
  rw [hW0] at bO hB0 hmp0 hsz hm0 ⊢
  clear hW0
  refine wpIn_rangeFunc_ownH hro h1 (gf := 100) (lb := #[.pointer (some ⟨Bm, 0, none⟩)]) rfl h46 (enters_of Tryz.func100 (by kernel_rfl) rfl)
    (keysU_stops F (n - 1) h46 hro (by omega) Bm b f W0 (by omega) hm0 hmp0) walksK_t (walksK_b) (Below.refl _ _) (fun _ => rfl)
    (fun (pre : List Int) W => (∃ v, Go.Boxed W w.heap.size 39 v ∧ W.ownsRow w.heap.size 22 1 v pre.length (pre.map encU64) ∧ True) ∧ Below w.heap.size w W)
    (fun _ _ _ => False)
    (OwnFrom.and (Own.from (holdsRow_own w.heap.size w.heap.size 39 22 1 (fun pre : List Int => pre.length) (fun pre : List Int => pre.map encU64) (fun pre v => True)) _) (ownFrom_below (Nat.le_refl _) (by omega)))
    (fun _ _ _ _ _ hs _ _ => hs)
    ⟨⟨_, bO, World.ownsRow_nil _ _ _ _, trivial⟩, hB0⟩
    (fun (x : Int) a' W => a' = { tmps := #[.slice none 0 0, .func (.func 100) #[] #[.pointer (some ⟨Bm, 0, none⟩)], .pointer (some ⟨w.heap.size, 0, none⟩), undef, .slice none 0 0, encU64 x, .func (.func 100) #[] #[.pointer (some ⟨Bm, 0, none⟩)], encU64 x, undef, undef, undef, undef, undef], defers := [] })
    ?hAx
    ?assign ?body ?done ?stop
  case hAx =>
    intro x a' _ X Y row hs hg hr
    exact hs
  case assign =>
    rintro l pre x W K ⟨⟨v, hv, hrow, hnil⟩, hB⟩ hK
    gi_wp2
    exact hK _ _ ((KeepsOthers.refl _).from _) (KeepsOthers.refl _).walks ⟨⟨v, hv, hrow, trivial⟩, hB⟩ rfl
  case body =>
    rintro l pre x a' W hl ⟨r, hr⟩ ⟨⟨v, hv, hrow, hnil⟩, hB⟩ rfl hlt
    have hc := hv.cell
    have hBsz := hB.size
    have F1 := cell_one_new W (encU64 x) 22
    gi_wp2_with (gi_at_builtin; refine wpListIn_append_own _ rfl _ _ 39 rfl w.heap.size 22 i0 (.int .u64 0) 1 8 Tryz.underlying39 hi hz0 hz1 hz2 rfl (by decide) _ _ _ rfl (hrow.alloc _) ⟨W.heap.size, 0, none⟩ 1 1 [encU64 x] rfl rfl F1 (by simp [Value.oneCell']) (by unfold maxLen; omega) (by omega) (by simp; omega) ?_; intro v' w1 hown' hgrow _; obtain ⟨g', cap', rfl⟩ := ownsRow_succ hown'; obtain ⟨hv1, hv2, hr2, hk2, hb2⟩ := hv.appended (by decide) hrow hB.size (Nat.le_refl _) hown' hgrow; have hc1 := hv1.cell; have hf1 := hv1.frozen)
    exact ⟨hk2.from _, hk2.walks, ⟨_, hv2, by rw [List.map_append]; simpa using hr2, trivial⟩, hB.trans hb2⟩
  case done =>
    rintro D ys W hD hperm ⟨⟨v, hv, hrow, hnil⟩, hB⟩ hK
    have hc := hv.cell
    gi_wp2
    refine ⟨by simp, .inl ⟨_, _, rfl, run_takeDeferred hK, ?_⟩⟩
    exact ⟨_, results_tmp rfl _ _ _, v, ys, rfl, hperm, ownsRow_putObj hrow _ hK rfl, hB.trans (belowK_b (w := w) (Nat.le_refl _) W D _ _ (by omega) hK rfl rfl)⟩
  case stop =>
    rintro D c pre W _ _ h _
    exact h.elim
end Go.Proofs.YtldobcfejldbiaaGreatDoor

namespace Go.Proofs.YtldobcfejldbiaaGreatDoor
set_option linter.unusedVariables false
set_option linter.unusedSimpArgs false
open Go.RowKit Go.Maps Go.Shelf Sm

set_option maxRecDepth 100000 in
set_option maxHeartbeats 1000000 in
theorem collectU_in (F : Fence) (n : Nat) (h44 : F.fn 98) (h58 : F.fn 142) (h46 : F.fn 100) (hro : F.round = none) (hn : 4 ≤ n) (Bm b : Nat) (f : List Int) (w : World) (hBm : Bm < w.heap.size)
    (hm : w.cell? ⟨Bm, 0, none⟩ = some (.map (some b))) (hmp : IsFm w b f) :
    CallsIn F n Tryz.prog 98 #[.func (.func 100) #[] #[.pointer (some ⟨Bm, 0, none⟩)]] w fun e W' =>
      ∃ (v : Value) (xs : List Int), e = .returned v ∧ xs.Perm f ∧ W'.ownsRow w.heap.size 22 1 v xs.length (xs.map encU64) ∧ Below w.heap.size w W' := by
  have h1 : 1 ≤ n := by omega
  refine callsIn_of_wp Tryz.func98 rfl h44 ?_ hro
  simp only [Tryz.ntmps98, List.size_toArray, List.length_cons, List.length_nil, Nat.reduceAdd, Nat.reduceSub, Array.replicate_succ, Array.replicate_zero, List.push_toArray, List.append_toArray, List.nil_append, List.cons_append]
  gi_wp2_with (gi_at_call 142; refine (appendSeqU_in F (n - 1) h58 h46 hro (by omega) Bm b f w hBm hm hmp).mono ?_; rintro e w' ⟨v, xs, rfl, hp, ho, hb⟩)
  go_ret
  exact ⟨v, xs, rfl, hp, ho, hb⟩
theorem collectU_c (Bm b : Nat) (f : List Int) (w : World) (hBm : Bm < w.heap.size) (hm : w.cell? ⟨Bm, 0, none⟩ = some (.map (some b))) (hmp : IsFm w b f) :
    Calls Tryz.prog 98 #[.func (.func 100) #[] #[.pointer (some ⟨Bm, 0, none⟩)]] w fun e W' =>
      ∃ (v : Value) (xs : List Int), e = .returned v ∧ xs.Perm f ∧ W'.ownsRow w.heap.size 22 1 v xs.length (xs.map encU64) ∧ Below w.heap.size w W' :=
  (callsIn_wide (n := 4)).1 (collectU_in Fence.wide 4 trivial trivial trivial rfl (Nat.le_refl _) Bm b f w hBm hm hmp)
theorem keysU_c (mb : Option Nat) (w : World) :
    Calls Tryz.prog 53 #[.map mb] w fun e w' => e = .returned (.func (.func 100) #[] #[.pointer (some ⟨w.heap.size, 0, none⟩)]) ∧ w' = w.alloc (.cells #[.map mb] 88) :=
  (callsIn_wide (n := 4)).1 (keysU_in Fence.wide 4 trivial rfl mb w)

/-! slices.Sort of no number. -/
set_option maxHeartbeats 1000000 in
theorem insertion0_w (cap : Nat) (w : World) : Calls Tryz.prog 176 #[.slice none 0 cap, .int .i64 0, .int .i64 0] w fun e w' => e = .returned (.tuple #[]) ∧ w' = w := by
  go_enter Tryz.func176, Tryz.ntmps176
  go_wp2_with fail
  go_loopw [6] (fun v wr => v = .int .i64 1 ∧ wr = w) (fun _ _ => 0)
  case atStart => exact ⟨rfl, rfl⟩
  case round =>
    obtain ⟨rfl, hw⟩ := hrel
    obtain rfl : w = wr := hw.symm
    go_wp2_with fail
    go_end0
    exact ⟨rfl, rfl⟩
set_option maxHeartbeats 1000000 in
theorem pdq0_w (cap : Nat) (w : World) : Calls Tryz.prog 143 #[.slice none 0 cap, .int .i64 0, .int .i64 0, .int .i64 0] w fun e w' => e = .returned (.tuple #[]) ∧ w' = w := by
  have CI := Lib.hid (insertion0_w cap w)
  go_enter Tryz.func143, Tryz.ntmps143
  go_wp2_with fail
  go_loopw [1, 2, 3, 8, 9] (fun v1 v2 v3 v8 v9 wr => v1 = .int .i64 0 ∧ v2 = .int .i64 0 ∧ v3 = .int .i64 0 ∧ v8 = .bool true ∧ v9 = .bool true ∧ wr = w) (fun _ _ _ _ _ _ => 0)
  case atStart => exact ⟨rfl, rfl, rfl, rfl, rfl, rfl⟩
  case round =>
    obtain ⟨rfl, rfl, rfl, rfl, rfl, hw⟩ := hrel
    obtain rfl : w = wr := hw.symm
    go_wp2_with fail
    refine CI.out.mono ?_
    rintro e w1 ⟨rfl, rfl⟩
    go_wp2_with fail
    refine bodyPost_ret (results_none rfl _ _ _) rfl ?_
    exact ⟨rfl, rfl⟩
set_option maxHeartbeats 1000000 in
theorem sort0_w (cap : Nat) (w : World) : Calls Tryz.prog 99 #[.slice none 0 cap] w fun e w' => e = .returned (.tuple #[]) ∧ w' = w := by
  have CL := Lib.hid (fun w' => len_w 0 (by omega) w')
  have CP := Lib.hid (pdq0_w cap w)
  go_enter Tryz.func99, Tryz.ntmps99
  go_wp2_with fail
  refine (CL.out _).mono ?_
  rintro e w1 ⟨rfl, rfl⟩
  go_wp2_with fail
  refine CP.out.mono ?_
  rintro e w2 ⟨rfl, rfl⟩
  go_wp2_with fail
  go_end0
  exact ⟨rfl, rfl⟩

theorem sorted_is {xs f : List Int} (hp : xs.Perm f) (hf : f.Pairwise (· < ·)) : xs.mergeSort (fun x y => decide (x ≤ y)) = f := by
  have tr : ∀ a b c : Int, decide (a ≤ b) = true → decide (b ≤ c) = true → decide (a ≤ c) = true := fun a b c h1 h2 => by simp only [decide_eq_true_eq] at *; omega
  have tt : ∀ a b : Int, (decide (a ≤ b) || decide (b ≤ a)) = true := fun a b => by simp only [Bool.or_eq_true, decide_eq_true_eq]; omega
  refine List.Perm.eq_of_pairwise (le := fun a b => decide (a ≤ b) = true) (fun a b _ _ h1 h2 => ?_) (List.pairwise_mergeSort tr tt xs) (hf.imp fun {a b} h => by simp only [decide_eq_true_eq]; omega) ((List.mergeSort_perm xs _).trans hp)
  simp only [decide_eq_true_eq] at h1 h2
  omega
theorem sh_owned {w : World} {base : Nat} {v : Value} {xs : List Int} (h : w.ownsRow base 22 1 v xs.length (xs.map encU64)) : (v = .slice none 0 0 ∧ xs = []) ∨ ∃ g cap, v = .slice (some ⟨g, 0, none⟩) xs.length cap ∧ base ≤ g ∧ g < w.heap.size ∧ xs.length ≤ cap ∧ SH w g xs.toArray := by
  rcases h.2 with ⟨rfl, h0⟩ | ⟨g, cap, cur, rfl, hbg, hg, hnc, hcm, hcs, htake⟩
  · exact .inl ⟨rfl, List.eq_nil_of_length_eq_zero h0⟩
  · refine .inr ⟨g, cap, rfl, hbg, (Array.getElem?_eq_some_iff.1 hg).1, hnc, fun j hj => ?_⟩
    have hj' : j < xs.length := by simpa using hj
    have h1 := h.cellAt j (by omega)
    refine ⟨?_, by simp [World.frozen?, hg]⟩
    rw [Nat.zero_add, h1]
    simp [hj', encU64]
theorem urow_of_sh {w : World} {g : Nat} {f : List Int} (h : SH w g f.toArray) (hg : g < w.heap.size) : URow w (some ⟨g, 0, none⟩) f :=
  ⟨fun j n hn => by
    have hj := (List.getElem?_eq_some_iff.1 hn).1
    refine ⟨g, 0, rfl, hg, ?_⟩
    have := (h j (by simpa using hj)).1
    rw [this]
    have e := (List.getElem?_eq_some_iff.1 hn).2
    simp [hj, e]⟩

set_option maxRecDepth 20000 in
set_option maxHeartbeats 2000000 in
theorem sortedU_w (Bm b : Nat) (f : List Int) (w : World) (hBm : Bm < w.heap.size) (hm : w.cell? ⟨Bm, 0, none⟩ = some (.map (some b))) (hmp : IsFm w b f) :
    Calls Tryz.prog 52 #[.func (.func 100) #[] #[.pointer (some ⟨Bm, 0, none⟩)]] w fun e W' =>
      ∃ (a : Option Addr) (cap : Nat), e = .returned (.slice a f.length cap) ∧ f.length ≤ cap ∧ URow W' a f ∧ Below w.heap.size w W' := by
  have CC := Lib.hid (collectU_c Bm b f w hBm hm hmp)
  have HR := Lib.hid hmp.rise
  have HN := Lib.hid hmp.nodup
  have hfew := hmp.few
  clear hm hmp
  go_enter Tryz.func52, Tryz.ntmps52
  go_wp2_with fail
  (with_reducible refine CC.out.mono ?_)
  rintro e w1 ⟨v, xs, rfl, hp, ho, hb⟩
  have hlen := hp.length_eq
  rcases sh_owned ho with ⟨rfl, rfl⟩ | ⟨g, cap, rfl, hbg, hgw, hcap, hs⟩
  · obtain rfl : f = [] := List.eq_nil_of_length_eq_zero hlen.symm
    have HB := Lib.hid hb
    have C0 := Lib.hid (sort0_w 0 w1)
    clear ho hp hb
    go_wp2_with fail
    (with_reducible refine C0.out.mono ?_)
    rintro e w2 ⟨rfl, rfl⟩
    go_wp2_with fail
    go_ret
    exact ⟨none, 0, rfl, Nat.le_refl _, ⟨fun j n hn => by simp at hn⟩, HB.out⟩
  · have HB := Lib.hid hb
    have hxn : xs.Nodup := hp.nodup_iff.2 HN.out
    have CS := Lib.hid (sort_w g cap xs w1 hs (by omega) hxn)
    have HE := Lib.hid (sorted_is hp HR.out)
    have HL := Lib.hid hlen
    have hgB := Lib.hid hbg
    have HG := Lib.hid hgw
    have HC := Lib.hid hcap
    obtain ⟨n, hn⟩ : ∃ n, xs.length = n := ⟨_, rfl⟩
    have HNN := Lib.hid hn
    rw [hn] at CS ⊢
    clear ho hp hb hs hlen hxn hbg hgw hcap hn
    go_wp2_with fail
    (with_reducible refine CS.out.mono ?_)
    rintro e w2 ⟨rfl, hs2, hk2⟩
    rw [HE.out] at hs2
    have HS2 := Lib.hid hs2
    have HK2 := Lib.hid hk2
    clear hs2 hk2
    go_wp2_with fail
    go_ret
    exact ⟨some ⟨g, 0, none⟩, cap, by rw [← HL.out, HNN.out]; rfl, by rw [← HL.out]; exact HC.out, urow_of_sh HS2.out (Nat.lt_of_lt_of_le HG.out HK2.out.size), HK2.out.below HB.out hgB.out HB.out.size⟩
end Go.Proofs.YtldobcfejldbiaaGreatDoor
