/-
  Layer 15: Send (printed by gen_rpm.py).
-/
import Derived.Test.YtldobcfejldbiaaGreatDoorMbh
import Derived.Test.YtldobcfejldbiaaGreatDoorMas
import Derived.Test.YtldobcfejldbiaaGreatDoorMbo
import Derived.Deep.LoopGhost
namespace Go.Proofs.YtldobcfejldbiaaGreatDoor
set_option linter.unusedVariables false
set_option linter.unusedSimpArgs false
open Go.RowKit Go.Maps Vm Rm Bm Im

/-! ### What was sent, in a row -/
abbrev cellsO (x : Nat × Bp) : Array Value := #[.int .i64 ((x.1 : Nat) : Int), .int .i64 x.2.kind, .int .i64 x.2.flags, .int .u64 x.2.root, .int .u64 x.2.cost, .int .u64 x.2.bridge, .int .u64 x.2.port, .int .i64 x.2.age, .int .i64 x.2.max, .int .i64 x.2.hello, .int .i64 x.2.delay]
theorem cellsO_is (x : Nat × Bp) : (cellsO x).toList = .int .i64 ((x.1 : Nat) : Int) :: (cellsB x.2).toList := rfl
def outRow (l : List (Nat × Bp)) : List Value := l.flatMap (fun x => (cellsO x).toList)
theorem outRow_add (l : List (Nat × Bp)) (x : Nat × Bp) : outRow (l ++ [x]) = outRow l ++ (cellsO x).toList := by simp [outRow]
theorem infoO11 : (Tryz.prog.info? 66).map (fun i => (i.zero, i.size, i.bytes)) = some (some (.agg (cellsO (0, zeroM))), 11, 88) := by kernel_rfl
theorem out_one (x : Nat × Bp) : ∀ u ∈ (cellsO x).toList, u.oneCell' = true := by
  intro u hu
  simp only [cellsO, List.mem_cons, List.not_mem_nil, or_false] at hu
  rcases hu with rfl | rfl | rfl | rfl | rfl | rfl | rfl | rfl | rfl | rfl | rfl <;> rfl
set_option maxRecDepth 100000 in
theorem wpList_out1 {ops : Array Oper} {rest : List Oper} {op : Oper} {a : Act} {w : World} {Q : Exit → Act → World → Prop} (hgd : op.guard = none) (x : Operand) (ho : op.op = .buildSlice 60 1 #[(0, x)]) (y : Nat × Bp) (hx : a.eval x = .agg (cellsO y))
    (h : wpList Tryz.prog ops Q rest (a.put op.dst (.slice (some ⟨w.heap.size, 0, none⟩) 1 1)) (w.alloc (.cells (cellsO y) 66))) : wpList Tryz.prog ops Q (op :: rest) a w := by
  obtain ⟨i0, hi, hz0, hz1, hz2⟩ := info_parts infoO11
  refine wpList_buildSlice hgd 60 66 1 _ ho (cellsO y) i0 _ Tryz.underlying60 hi hz0 (by rw [hz1]; decide) (by rw [hz1]; decide) ?_ h
  simp only [List.map_toArray, List.map_cons, List.map_nil, hx, hz1]
  kernel_rfl
def lenOf : Value → Nat
  | .slice _ n _ => n
  | _ => 0
theorem own_len {w : World} {base : Nat} {e : TypeId} {size : Nat} {v : Value} {n : Nat} {xs : List Value} (h : w.ownsRow base e size v n xs) : lenOf v = n := by
  rcases h.2 with ⟨rfl, h1⟩ | ⟨g, cap, cur, rfl, _⟩
  · exact h1.symm
  · rfl
theorem own_same {w w' : World} {base : Nat} {e : TypeId} {size : Nat} {v : Value} {n : Nat} {xs : List Value} (h : w.ownsRow base e size v n xs) (hb : ∀ i, base ≤ i → i < w.heap.size → w'.heap[i]? = w.heap[i]?) : w'.ownsRow base e size v n xs :=
  ⟨h.1, by
    rcases h.2 with ⟨h0, h1⟩ | ⟨g, cap, cur, e1, hbg, hg, rest⟩
    · exact .inl ⟨h0, h1⟩
    · exact .inr ⟨g, cap, cur, e1, hbg, (hb g hbg (Array.getElem?_eq_some_iff.1 hg).1).trans hg, rest⟩⟩
theorem own_kp {w w' : World} {base b : Nat} {e : TypeId} {size : Nat} {v : Value} {n : Nat} {xs : List Value} (h : w.ownsRow base e size v n xs) (hk : Kp b w w') (hb : b < base) : w'.ownsRow base e size v n xs := own_same h fun i h1 h2 => hk.block i h2 (by omega)
theorem own_k2 {w w' : World} {base x m : Nat} {e : TypeId} {size : Nat} {v : Value} {n : Nat} {xs : List Value} (h : w.ownsRow base e size v n xs) (hk : K2 x m w w') (h1 : x < base) (h2 : m < base) : w'.ownsRow base e size v n xs := own_same h fun i h3 h4 => hk.block i h4 (by omega) (by omega)

/-! ### Step by step -/
def mixP (t : Tm) (l : List Pt) (k : Nat) : List Pt := (l.take k).map (sentP t) ++ l.drop k
theorem mix_zero (t : Tm) (l : List Pt) : mixP t l 0 = l := rfl
theorem mix_all {t : Tm} {l : List Pt} {n : Nat} (h : l.length = n) : mixP t l n = l.map (sentP t) := by
  unfold mixP
  rw [List.take_of_length_le (by omega), List.drop_eq_nil_of_le (by omega), List.append_nil]
theorem mix_len (t : Tm) (l : List Pt) (k : Nat) : (mixP t l k).length = l.length := by
  unfold mixP
  simp
  omega
theorem mix_at {t : Tm} {l : List Pt} {k : Nat} {p : Pt} (h : l[k]? = some p) : (mixP t l k)[k]? = some p := by
  have hk := (List.getElem?_eq_some_iff.1 h).1
  unfold mixP
  rw [List.getElem?_append_right (by simp; omega)]
  simp only [List.length_map, List.length_take, List.getElem?_drop]
  rw [show k + (k - min k l.length) = k by omega]
  exact h
theorem mix_set {t : Tm} {l : List Pt} {k : Nat} {p : Pt} (h : l[k]? = some p) : (mixP t l k).set k (sentP t p) = mixP t l (k + 1) := by
  have hk := (List.getElem?_eq_some_iff.1 h).1
  unfold mixP
  rw [List.set_append_right (s := (l.take k).map (sentP t)) (t := l.drop k) k _ (by simp; omega), List.take_add_one, h]
  simp only [List.length_map, List.length_take]
  rw [show k - min k l.length = 0 by omega, List.drop_eq_getElem_cons hk]
  simp [(List.getElem?_eq_some_iff.1 h).2]
theorem mix_next {t : Tm} {l : List Pt} {k : Nat} {p : Pt} (h : l[k]? = some p) : (mixP t l (k + 1))[k]? = some (sentP t p) := by
  have hk := (List.getElem?_eq_some_iff.1 h).1
  rw [← mix_set h, List.getElem?_set_self (by rw [mix_len]; exact hk)]
theorem outs_next {t : Tm} {l : List Pt} {k : Nat} {p : Pt} (h : l[k]? = some p) : outsI t (l.take (k + 1)) = outsI t (l.take k) ++ (if (sendP t p).2.2 = true then [(k, (sendP t p).2.1)] else []) := by
  have hk := (List.getElem?_eq_some_iff.1 h).1
  unfold outsI
  rw [List.take_add_one, h, Option.toList_some, List.zipIdx_append, List.filter_append, List.map_append]
  simp only [List.length_take, List.zipIdx_cons, List.zipIdx_nil, Nat.zero_add]
  rw [show min k l.length = k by omega]
  congr 1
  cases hs : (sendP t p).2.2 <;> simp [hs]
theorem outs_few (t : Tm) (l : List Pt) : (outsI t l).length ≤ l.length := by
  unfold outsI
  rw [List.length_map]
  exact Nat.le_trans (List.length_filter_le _ _) (by rw [List.length_zipIdx]; exact Nat.le_refl _)
theorem outs_all {t : Tm} {l : List Pt} {n : Nat} (h : l.length = n) : outsI t (l.take n) = outsI t l := by rw [List.take_of_length_le (by omega)]
theorem sent_id (t : Tm) (p : Pt) : (sentP t p).id = p.id := congrArg Prod.fst (sent_su t p)
theorem ids_sent (t : Tm) (l : List Pt) : (l.map (sentP t)).map Pt.id = l.map Pt.id := by
  rw [List.map_map]
  exact List.map_congr_left fun p _ => sent_id t p
theorem inv_small {p : Pt} (h : PtInv p) : smallB p = true ∧ (0 ≤ p.given.age ∧ 0 ≤ p.given.max ∧ 0 ≤ p.given.hello ∧ 0 ≤ p.given.delay) ∧ -9223372036854775808 ≤ p.txCount := by
  obtain ⟨h1, h2, h3, h4, h5⟩ := h.given
  have h6 := h.tx
  refine ⟨?_, ⟨h1.1, h2.1, h3.1, h4⟩, by omega⟩
  unfold smallB smI
  simp only [Bool.and_eq_true, decide_eq_true_eq]
  omega
/-- No port lies where the roles told lie. -/
theorem roles_ne {w : World} {g : Nat} {l : List Pt} {p : Pt} (hT : TRoles w) (h : WRow w g l) (hp : l[0]? = some p) : g ≠ 0 := by
  rintro rfl
  have h1 := h.at_ 0 p hp
  have h0 := hT.1
  have h2 : w.cell? ⟨0, 0, none⟩ = some (.int .u64 p.id) := h1 0 (.int .u64 p.id) rfl
  rw [h0] at h2
  cases h2
theorem TRoles.kp {w w' : World} {b : Nat} (h : TRoles w) (hk : Kp b w w') (hb : b ≠ 0) : TRoles w' := by
  have e : w'.heap[0]? = w.heap[0]? := hk.block 0 h.pos (fun e => hb e.symm)
  unfold TRoles at *
  simp only [World.cell?, e] at *
  exact h

/-! ### The walk -/
def SnO (t : Tm) (l : List Pt) (n g base : Nat) (w : World) (gk : Nat) (o i : Value) (wr : World) : Prop :=
  ∃ k : Nat, k + gk = n ∧ i = .int .i64 (k : Nat) ∧ wr.ownsRow base 66 11 o (outsI t (l.take k)).length (outRow (outsI t (l.take k))) ∧ WRow wr g (mixP t l k) ∧ Kp g w wr
structure SnIs (t : Tm) (l : List Pt) (k n g base c0 : Nat) (X : Pt) (w : World) (gi : Nat) (o : Value) (wr : World) (pc : Pt) (Mc : Bp) (ok : Bool) (R : List Pt) (L : List (Nat × Bp)) : Prop where
  at_ : R[k]? = some pc
  send : sendP t pc = (X, Mc, ok)
  inv : PtInv pc
  len : R.length = n
  set : R.set k X = mixP t l (k + 1)
  yes : ok = true → L ++ [(k, Mc)] = outsI t (l.take (k + 1)) ∧ L.length = c0 ∧ sendP t X = (X, zeroM, false) ∧ PtInv X ∧ 0 < gi
  no : ok = false → L = outsI t (l.take (k + 1))
  own : wr.ownsRow base 66 11 o L.length (outRow L)
  row : WRow wr g R
  kp : Kp g w wr
def SnI (t : Tm) (l : List Pt) (k n g base c0 : Nat) (X : Pt) (w : World) (gi : Nat) (o : Value) (wr : World) : Prop := ∃ pc Mc ok R L, SnIs t l k n g base c0 X w gi o wr pc Mc ok R L
theorem sni_start {t : Tm} {l : List Pt} {k n g base : Nat} {p : Pt} {w wr : World} {o : Value} (hp : l[k]? = some p) (hl : l.length = n) (hinv : PtInv p) (ho : wr.ownsRow base 66 11 o (outsI t (l.take k)).length (outRow (outsI t (l.take k)))) (hw : WRow wr g (mixP t l k)) (hk : Kp g w wr) :
    SnI t l k n g base (outsI t (l.take k)).length (sentP t p) w 1 o wr := by
  refine ⟨p, (sendP t p).2.1, (sendP t p).2.2, mixP t l k, outsI t (l.take k), ⟨mix_at hp, rfl, hinv, (mix_len t l k).trans hl, mix_set hp, fun h => ⟨?_, rfl, sent_once h, sent_inv hinv, Nat.one_pos⟩, fun h => ?_, ho, hw, hk⟩⟩
  · rw [outs_next hp, if_pos h]
  · rw [outs_next hp, h]; simp
theorem sni_next {t : Tm} {l : List Pt} {k n g base c0 : Nat} {X pc : Pt} {Mc : Bp} {w wr w1 : World} {o o1 : Value} {R : List Pt} {L : List (Nat × Bp)} {gi : Nat} (h : SnIs t l k n g base c0 X w gi o wr pc Mc true R L) (hn : k < n)
    (ho : w1.ownsRow base 66 11 o1 (L.length + 1) (outRow L ++ (cellsO (k, Mc)).toList)) (hw : WRow w1 g (R.set k X)) (hk : Kp g w w1) : SnI t l k n g base c0 X w 0 o1 w1 := by
  obtain ⟨h1, h2, h3, h4, _⟩ := h.yes rfl
  have hlen : (R.set k X).length = n := by rw [List.length_set]; exact h.len
  refine ⟨X, zeroM, false, R.set k X, L ++ [(k, Mc)], ⟨List.getElem?_set_self (by rw [h.len]; exact hn), h3, h4, hlen, by rw [List.set_set]; exact h.set, fun e => (nomatch e), fun _ => h1, ?_, hw, hk⟩⟩
  rw [List.length_append, outRow_add]
  exact ho
theorem grown_same {base : Nat} {wF y1 : World} {zz : Obj} {row : Option Nat} (hg : (wF.alloc zz).grownBy y1 row) (hr : ∀ j, row = some j → base ≤ j) {i : Nat} (hi : i < base) (hb : base ≤ wF.heap.size) : y1.heap[i]? = wF.heap[i]? :=
  (hg.block i (by rw [size_box]; omega) (fun e => by have := hr i e.symm; omega)).trans ((bw_alloc (Below.refl _ wF) zz).block i (by omega))
theorem grown_kp {g base : Nat} {w wF y1 : World} {zz : Obj} {row : Option Nat} (h : Kp g w wF) (he : w.heap.size = base) (hb : base ≤ wF.heap.size) (hg : (wF.alloc zz).grownBy y1 row) (hr : ∀ j, row = some j → base ≤ j) : Kp g w y1 :=
  ⟨hg.os.trans h.os, hg.tape.trans h.tape, hg.output.trans h.output, by have := hg.size; rw [size_box] at this; omega, fun i hi hn => (grown_same hg hr (by omega) hb).trans (h.block i hi hn)⟩
/-- A step of memory: something laid. -/
structure AlS (w0 Z W1 : World) (b : Nat) (zz : Obj) : Prop where
  below : Below w0.heap.size w0 W1
  next : Below Z.heap.size Z W1
  new : W1.heap[b]? = some zz
  ge : w0.heap.size ≤ b
  eq : Z.heap.size = b
theorem al_s {w0 Z W1 : World} {b : Nat} {zz : Obj} (S : Below w0.heap.size w0 Z) (h : Z.alloc zz = W1) (hb : Z.heap.size = b) : AlS w0 Z W1 b zz := by
  subst h
  subst hb
  exact ⟨bw_alloc S zz, bw_alloc (Below.refl _ _) zz, heap_alloc_new Z zz, S.size, rfl⟩
theorem row_other (w : World) {g c : Nat} (cs : Array Value) (hne : c ≠ g) : (w.setRow g cs).heap[c]? = w.heap[c]? := by
  unfold World.setRow
  simp only [Array.getElem?_modify]
  rw [if_neg (fun e => hne e.symm)]
theorem bp_row_other {T : TypeId} {w : World} {b c : Nat} {q : Bp} (h : BBlk T w b q) (cs : Array Value) (hne : b ≠ c) : BBlk T (w.setRow c cs) b q := (row_other _ _ hne).trans h
theorem pt_row_other {T : TypeId} {w : World} {b c : Nat} {p : Pt} (h : PtBlk T w b p) (cs : Array Value) (hne : b ≠ c) : PtBlk T (w.setRow c cs) b p := (row_other _ _ hne).trans h

set_option maxRecDepth 20000 in
set_option maxHeartbeats 16000000 in
theorem send15_w (xb g cap mb k : Nat) (i : Int) (t : Tm) (x : Rs) (w : World) (h : IsX w xb g cap mb i t k x) (hT : TRoles w) (hbr : Vm.u64B i) (hk : k ≤ 1000) :
    Calls Tryz.prog 19 #[.pointer (some ⟨xb, 0, none⟩)] w fun e w' => ∃ v, e = .returned v ∧ w'.ownsRow w.heap.size 66 11 v (outsI t x.l).length (outRow (outsI t x.l)) ∧ Act15 w w' xb g mb i t k (sendX i t x) := by
  obtain ⟨hne1, hne2, hne3⟩ := h.ne
  obtain ⟨p0, hp0⟩ := at_some (l := x.l) (k := 0) (by have := h.len1; omega)
  have hg0 := roles_ne hT h.row hp0
  clear hp0 p0
  have hgl := h.row.lt
  have hxl := h.blk.lt
  have HX := Lib.hid h
  have HT := Lib.hid hT
  obtain ⟨n, hn⟩ : ∃ n, x.l.length = n := ⟨_, rfl⟩
  have HN := Lib.hid hn
  have hn1 : n ≤ 16 := hn ▸ h.len2
  have hn0 : 1 ≤ n := hn ▸ h.len1
  have HB := Lib.hid (show XBlk w xb i t (some ⟨g, 0, none⟩) n cap mb ((x.r : Nat) : Int) from hn ▸ h.blk)
  have CR := Lib.hid (fun w' (hkp : Kp g w w') (hw : WRow w' g (x.l.map (sentP t))) => run15_w xb i t (some ⟨g, 0, none⟩) n cap mb k { x with l := x.l.map (sentP t) } w' (HB.out.kp hkp (fun e => hne2 e.symm)) hw.row (by rw [List.length_map]; exact HN.out) hn0 hn1 (h.fm.kp hkp (fun e => hne3 e.symm)) (by show FOk ((x.l.map (sentP t)).map Pt.id) x.f; rw [ids_sent]; exact h.fok) hbr (good_sent h.good t) h.rr hk)
  obtain ⟨base, hbase⟩ : ∃ base, w.heap.size = base := ⟨_, rfl⟩
  have HBA := Lib.hid hbase
  rw [hbase] at hgl hxl
  have hml : mb < base := by have := h.fm.lt; omega
  obtain ⟨k0, k1, k2, k3, k4, k5, k6, k7⟩ := HB.out.cells
  obtain ⟨i0, hi, hz0, hz1, hz2⟩ := info_parts infoO11
  have CS := Lib.hid (fun (pc X : Pt) (Mc : Bp) (ok : Bool) (w' : World) (h : TRoles w') (hs : sendP t pc = (X, Mc, ok)) (hv : PtInv pc) => show Calls Tryz.prog 50 #[.agg #[.int .u64 i, .int .i64 t.age, .int .i64 t.max, .int .i64 t.hello, .int .i64 t.delay], .agg (cellsT pc)] w' (fun e w'' => e = .returned (.tuple #[.agg (cellsT X), Mc.val, .bool ok]) ∧ Below w'.heap.size w' w'') from send14_w i t pc X Mc ok w' h (inv_small hv).1 (inv_small hv).2.1 (inv_small hv).2.2 hs)
  clear h hT hn hbase hk hbr
  go_enter Tryz.func19, Tryz.ntmps19
  go_wp2
  go_step3
  go_wp2
  go_step3
  go_wp2
  go_loopg [3, 13] n (fun gk o j wr => SnO t x.l n g base w gk o j wr)
  case atStart => exact ⟨0, Nat.zero_add _, rfl, World.ownsRow_nil _ _ _ _, HX.out.row, Kp.refl' g w⟩
  case round =>
    obtain ⟨kk, hkk, rfl, hO, hW, hK⟩ := hrel
    obtain rfl : gk = n - kk := by omega
    by_cases hlt : kk < n
    · obtain ⟨p, hp⟩ := at_some (l := x.l) (k := kk) (by rw [HN.out]; exact hlt)
      have hki : ((kk : Nat) : Int) < (n : Int) := by omega
      have hk00 : (0 : Int) ≤ ((kk : Nat) : Int) := by omega
      have HI := Lib.hid (sni_start hp HN.out (HX.out.good.inv.each kk p hp) hO hW hK)
      obtain ⟨X, hX⟩ : ∃ X, sentP t p = X := ⟨_, rfl⟩
      obtain ⟨c0, hc0⟩ : ∃ c0, (outsI t (x.l.take kk)).length = c0 := ⟨_, rfl⟩
      rw [hX, hc0] at HI
      have hc16 : c0 ≤ 16 := hc0 ▸ Nat.le_trans (outs_few t (x.l.take kk)) (Nat.le_trans (List.length_take_le _ _) (by omega))
      clear hO hW hK hX hc0 hp
      obtain ⟨wo, hwo⟩ : ∃ wo : World, wo = wr := ⟨_, rfl⟩
      rw [← hwo] at HI
      rw [← hwo]
      clear hwo wr
      go_wp2_with fail
      go_loopg [3] 1 (fun gi o wr => SnI t x.l kk n g base c0 X w gi o wr)
      case atStart => exact HI.out
      case round =>
        obtain ⟨pc, Mc, ok, R, L, hI⟩ := hrel
        have HS := Lib.hid hI
        have HSB := Lib.hid (HB.out.kp hI.kp (fun e => hne2 e.symm))
        have HST := Lib.hid (HT.out.kp hI.kp hg0)
        have HSR := Lib.hid (hI.row.at_ kk pc hI.at_)
        have hws : base ≤ wr.heap.size := by have := hI.kp.size; have := HBA.out; omega
        have HB1 := Lib.hid (Below.refl wr.heap.size wr)
        clear hI HI
        go_upto_region 5 with (fail)
        refine wp_region_held_drew (S := fun V => Below wr.heap.size wr V) (by kernel_rfl) HB1.out.drew (fun hHeld => ?_)
        generalize hz0 : World.drew wr = z0 at hHeld ⊢
        have S0 := Lib.hid (show Below wr.heap.size wr z0 from hz0 ▸ HB1.out.drew)
        clear hz0
        try simp only [Act.put]
        refine wpAnyH_take (i := 0) (v := .pointer (some ⟨xb, 0, none⟩)) rfl (by kernel_rfl) (by kernel_rfl) (by kernel_rfl) (fun _ _ _ h => h) (yieldsIf_move (by rfl) _ rfl _ rfl) hHeld ?_
        try simp only [Act.put, List.getElem_toArray, List.getElem_cons_succ, List.getElem_cons_zero, List.setIfInBounds_toArray, List.set_cons_zero, List.set_cons_succ]
        refine wpAnyH_take (i := 1) (v := .pointer (some ⟨xb, 0, none⟩)) rfl (by kernel_rfl) (by kernel_rfl) (by kernel_rfl) (fun _ _ _ h => h) (Or.inl ⟨by rfl, fun V h => by go_simp⟩) hHeld ?_
        try simp only [Act.put, List.getElem_toArray, List.getElem_cons_succ, List.getElem_cons_zero, List.setIfInBounds_toArray, List.set_cons_zero, List.set_cons_succ]
        refine wpAnyH_take (i := 2) (v := .pointer (some ⟨xb, 0, none⟩)) rfl (by kernel_rfl) (by kernel_rfl) (by kernel_rfl) (fun _ _ _ h => h) (Or.inl ⟨by rfl, fun V h => by go_simp⟩) hHeld ?_
        try simp only [Act.put, List.getElem_toArray, List.getElem_cons_succ, List.getElem_cons_zero, List.setIfInBounds_toArray, List.set_cons_zero, List.set_cons_succ]
        refine wpAnyH_take (i := 3) (v := .agg #[.int .u64 i, .int .i64 t.age, .int .i64 t.max, .int .i64 t.hello, .int .i64 t.delay]) rfl (by kernel_rfl) (by kernel_rfl) (by kernel_rfl) (fun _ _ _ h => h) (Or.inl ⟨by rfl, fun V h => by have ⟨h0, h1, h2, h3, h4, _⟩ := (HSB.out.next h).cells; go_simp⟩) hHeld ?_
        try simp only [Act.put, List.getElem_toArray, List.getElem_cons_succ, List.getElem_cons_zero, List.setIfInBounds_toArray, List.set_cons_zero, List.set_cons_succ]
        refine wpAnyH_take (i := 4) (v := .pointer (some ⟨xb, 0, none⟩)) rfl (by kernel_rfl) (by kernel_rfl) (by kernel_rfl) (fun _ _ _ h => h) (yieldsIf_move (by rfl) _ rfl _ rfl) hHeld ?_
        try simp only [Act.put, List.getElem_toArray, List.getElem_cons_succ, List.getElem_cons_zero, List.setIfInBounds_toArray, List.set_cons_zero, List.set_cons_succ]
        refine wpAnyH_take (i := 5) (v := .pointer (some ⟨xb, 0, none⟩)) rfl (by kernel_rfl) (by kernel_rfl) (by kernel_rfl) (fun _ _ _ h => h) (Or.inl ⟨by rfl, fun V h => by go_simp⟩) hHeld ?_
        try simp only [Act.put, List.getElem_toArray, List.getElem_cons_succ, List.getElem_cons_zero, List.setIfInBounds_toArray, List.set_cons_zero, List.set_cons_succ]
        refine wpAnyH_take (i := 6) (v := .pointer (some ⟨xb, 5, none⟩)) rfl (by kernel_rfl) (by kernel_rfl) (by kernel_rfl) (fun _ _ _ h => h) (Or.inl ⟨by rfl, fun V h => by go_simp⟩) hHeld ?_
        try simp only [Act.put, List.getElem_toArray, List.getElem_cons_succ, List.getElem_cons_zero, List.setIfInBounds_toArray, List.set_cons_zero, List.set_cons_succ]
        refine wpAnyH_take (i := 7) (v := .slice (some ⟨g, 0, none⟩) n cap) rfl (by kernel_rfl) (by kernel_rfl) (by kernel_rfl) (fun _ _ _ h => h) (Or.inl ⟨by rfl, fun V h => by have h5 := (HSB.out.next h).cells.2.2.2.2.2.1; go_simp⟩) hHeld ?_
        try simp only [Act.put, List.getElem_toArray, List.getElem_cons_succ, List.getElem_cons_zero, List.setIfInBounds_toArray, List.set_cons_zero, List.set_cons_succ]
        refine wpAnyH_take (i := 8) (v := .int .i64 ((kk : Nat) : Int)) rfl (by kernel_rfl) (by kernel_rfl) (by kernel_rfl) (fun _ _ _ h => h) (yieldsIf_move (by rfl) _ rfl _ rfl) hHeld ?_
        try simp only [Act.put, List.getElem_toArray, List.getElem_cons_succ, List.getElem_cons_zero, List.setIfInBounds_toArray, List.set_cons_zero, List.set_cons_succ]
        refine wpAnyH_take (i := 9) (v := .pointer (some ⟨g, kk * 61, none⟩)) rfl (by kernel_rfl) (by kernel_rfl) (by kernel_rfl) (fun _ _ _ h => h) (Or.inl ⟨by rfl, fun V h => by go_simp⟩) hHeld ?_
        try simp only [Act.put, List.getElem_toArray, List.getElem_cons_succ, List.getElem_cons_zero, List.setIfInBounds_toArray, List.set_cons_zero, List.set_cons_succ]
        refine wpAnyH_take (i := 10) (v := .agg (cellsT pc)) rfl (by kernel_rfl) (by kernel_rfl) (by kernel_rfl) (fun _ _ _ h => h) (yieldsIf_run (by rfl) 78 _ rfl ⟨g, kk * 61, none⟩ rfl _ (fun V h => loadMidP (range_next HSR.out HS.out.row.lt h))) hHeld ?_
        try simp only [Act.put, List.getElem_toArray, List.getElem_cons_succ, List.getElem_cons_zero, List.setIfInBounds_toArray, List.set_cons_zero, List.set_cons_succ]
        refine wpAnyH_ready (rs := [11, 16, 17]) (by kernel_rfl) (by simp) ?_
        refine AllReadyH.cons rfl (fun K hK => ?_) ?_
        · go_simp
          refine (CS.out pc X Mc ok _ (HST.out.next S0.out) HS.out.send HS.out.inv).mono ?_
          rintro e z1 ⟨rfl, hz⟩
          have S1 := Lib.hid (bw_trans S0.out hz)
          clear hz hHeld
          go_simp
          refine hK.out _ _ S1.out (fun hHeld => ?_)
          clear hK
          try simp only [Act.put, List.getElem_toArray, List.getElem_cons_succ, List.getElem_cons_zero, List.setIfInBounds_toArray, List.set_cons_zero, List.set_cons_succ]
          refine wpAnyH_take (i := 12) (v := .tuple #[.agg (cellsT X), Mc.val, .bool ok]) rfl (by kernel_rfl) (by kernel_rfl) (by kernel_rfl) (fun _ _ _ h => h) (Or.inl ⟨by rfl, fun V h => by go_simp⟩) hHeld ?_
          try simp only [Act.put, List.getElem_toArray, List.getElem_cons_succ, List.getElem_cons_zero, List.setIfInBounds_toArray, List.set_cons_zero, List.set_cons_succ]
          refine wpAnyH_take (i := 13) (v := .agg (cellsT X)) rfl (by kernel_rfl) (by kernel_rfl) (by kernel_rfl) (fun _ _ _ h => h) (Or.inl ⟨by rfl, fun V h => by go_simp⟩) hHeld ?_
          try simp only [Act.put, List.getElem_toArray, List.getElem_cons_succ, List.getElem_cons_zero, List.setIfInBounds_toArray, List.set_cons_zero, List.set_cons_succ]
          refine wpAnyH_take (i := 14) (v := Mc.val) rfl (by kernel_rfl) (by kernel_rfl) (by kernel_rfl) (fun _ _ _ h => h) (Or.inl ⟨by rfl, fun V h => by go_simp⟩) hHeld ?_
          try simp only [Act.put, List.getElem_toArray, List.getElem_cons_succ, List.getElem_cons_zero, List.setIfInBounds_toArray, List.set_cons_zero, List.set_cons_succ]
          refine wpAnyH_take (i := 15) (v := .bool ok) rfl (by kernel_rfl) (by kernel_rfl) (by kernel_rfl) (fun _ _ _ h => h) (Or.inl ⟨by rfl, fun V h => by go_simp⟩) hHeld ?_
          try simp only [Act.put, List.getElem_toArray, List.getElem_cons_succ, List.getElem_cons_zero, List.setIfInBounds_toArray, List.set_cons_zero, List.set_cons_succ]
          refine wpAnyH_ready (rs := [16, 17]) (by kernel_rfl) (by simp) ?_
          refine AllReadyH.cons rfl (fun K hK => ?_) ?_
          · go_simp
            obtain ⟨z2, hW2⟩ : ∃ z, World.alloc z1 (.cells (cellsT zeroP) 78) = z := ⟨_, rfl⟩
            refine Eq.mp (congrArg (K _) hW2.symm) ?_
            generalize hb2 : Array.size (World.heap z1) = b5
            have A2 := Lib.hid (al_s S1.out hW2 hb2)
            have S2 := Lib.hid A2.out.below
            have L5 := Lib.hid A2.out.ge
            have P2 := Lib.hid (show PtBlk 78 z2 b5 zeroP from A2.out.new)
            clear hW2 hb2 hHeld
            refine hK.out _ _ S2.out (fun hHeld => ?_)
            clear hK
            try simp only [Act.put, List.getElem_toArray, List.getElem_cons_succ, List.getElem_cons_zero, List.setIfInBounds_toArray, List.set_cons_zero, List.set_cons_succ]
            refine wpAnyH_ready (rs := [17]) (by kernel_rfl) (by simp) ?_
            refine AllReadyH.cons rfl (fun K hK => ?_) AllReadyH.nil
            go_simp
            obtain ⟨z3, hW3⟩ : ∃ z, World.alloc z2 (.cells (cellsB zeroM) 49) = z := ⟨_, rfl⟩
            refine Eq.mp (congrArg (K _) hW3.symm) ?_
            generalize hb3 : Array.size (World.heap z2) = b6
            have A3 := Lib.hid (al_s S2.out hW3 hb3)
            have S3 := Lib.hid A3.out.below
            have L6 := Lib.hid A3.out.ge
            have Q3 := Lib.hid (show BBlk 49 z3 b6 zeroM from A3.out.new)
            have P3 := Lib.hid (PtBlk.next P2.out A3.out.next)
            have N56 := Lib.hid (show b5 ≠ b6 by have a := P2.out.lt; have b := A3.out.eq; omega)
            clear hW3 hb3 hHeld
            refine hK.out _ _ S3.out (fun hHeld => ?_)
            clear hK
            try simp only [Act.put, List.getElem_toArray, List.getElem_cons_succ, List.getElem_cons_zero, List.setIfInBounds_toArray, List.set_cons_zero, List.set_cons_succ]
            refine wpAnyH_ready (rs := [18]) (by kernel_rfl) (by simp) ?_
            refine AllReadyH.cons rfl (fun K hK => ?_) AllReadyH.nil
            rw [if_pos (by kernel_rfl)]
            refine wp_store_row 78 _ _ rfl b5 (cellsT X) rfl rfl 78 _ P3.out infoSP rfl (cellsT_one X) ?_
            have SA := Lib.hid (below_row S3.out L5.out (cellsT X))
            have KPA := Lib.hid (PtBlk.row P3.out X)
            have KBA := Lib.hid (bp_row_other Q3.out (cellsT X) N56.out.symm)
            refine hK.out _ _ SA.out (fun hHeld => ?_)
            clear hK
            try simp only [Act.put, List.getElem_toArray, List.getElem_cons_succ, List.getElem_cons_zero, List.setIfInBounds_toArray, List.set_cons_zero, List.set_cons_succ]
            refine wpAnyH_ready (rs := [19]) (by kernel_rfl) (by simp) ?_
            refine AllReadyH.cons rfl (fun K hK => ?_) AllReadyH.nil
            rw [if_pos (by kernel_rfl)]
            refine wp_store_row 49 _ _ rfl b6 (cellsB Mc) rfl rfl 49 _ KBA.out infoSB rfl (cellsB_one Mc) ?_
            have SB := Lib.hid (below_row SA.out L6.out (cellsB Mc))
            have KPB := Lib.hid (pt_row_other KPA.out (cellsB Mc) N56.out)
            have KBB := Lib.hid (BBlk.row KBA.out Mc)
            refine hK.out _ _ SB.out (fun hHeld => ?_)
            clear hK
            try simp only [Act.put, List.getElem_toArray, List.getElem_cons_succ, List.getElem_cons_zero, List.setIfInBounds_toArray, List.set_cons_zero, List.set_cons_succ]
            refine wpAnyH_take (i := 20) (v := .bool ok) rfl (by kernel_rfl) (by kernel_rfl) (by kernel_rfl) (fun _ _ _ h => h) (Or.inl ⟨by rfl, fun V h => by go_simp⟩) hHeld ?_
            try simp only [Act.put, List.getElem_toArray, List.getElem_cons_succ, List.getElem_cons_zero, List.setIfInBounds_toArray, List.set_cons_zero, List.set_cons_succ]
            refine wpAnyH_done (by kernel_rfl) ?_ _
            clear hHeld
            generalize hwE : World.setRow (World.setRow z3 b5 (cellsT X)) b6 (cellsB Mc) = wE at *
            clear hwE
            go_upto_region 6 with (fail)
            have HN6 := Lib.hid (HSB.out.next SB.out)
            have HR6 := Lib.hid (range_next HSR.out HS.out.row.lt SB.out)
            have BE := Lib.hid (Below.refl wE.heap.size wE)
            refine wp_region_held_drew (S := fun V => XBlk V xb i t (some ⟨g, 0, none⟩) n cap mb ((x.r : Nat) : Int) ∧ PtBlk 78 V b5 X) (by kernel_rfl) ⟨HN6.out.drew, KPB.out.next BE.out.drew⟩ (fun hHeld => ?_)
            generalize hz6 : World.drew wE = zE at hHeld ⊢
            have SE := Lib.hid (show Below wE.heap.size wE zE from hz6 ▸ BE.out.drew)
            have HNE := Lib.hid (HN6.out.next SE.out)
            have KPE := Lib.hid (KPB.out.next SE.out)
            clear hz6
            try simp only [Act.put]
            refine wpAnyH_take (i := 0) (v := .pointer (some ⟨xb, 0, none⟩)) rfl (by kernel_rfl) (by kernel_rfl) (by kernel_rfl) (fun _ _ _ h => h) (yieldsIf_move (by rfl) _ rfl _ rfl) hHeld ?_
            try simp only [Act.put, List.getElem_toArray, List.getElem_cons_succ, List.getElem_cons_zero, List.setIfInBounds_toArray, List.set_cons_zero, List.set_cons_succ]
            refine wpAnyH_take (i := 1) (v := .pointer (some ⟨xb, 0, none⟩)) rfl (by kernel_rfl) (by kernel_rfl) (by kernel_rfl) (fun _ _ _ h => h) (Or.inl ⟨by rfl, fun V h => by go_simp⟩) hHeld ?_
            try simp only [Act.put, List.getElem_toArray, List.getElem_cons_succ, List.getElem_cons_zero, List.setIfInBounds_toArray, List.set_cons_zero, List.set_cons_succ]
            refine wpAnyH_take (i := 2) (v := .pointer (some ⟨xb, 5, none⟩)) rfl (by kernel_rfl) (by kernel_rfl) (by kernel_rfl) (fun _ _ _ h => h) (Or.inl ⟨by rfl, fun V h => by go_simp⟩) hHeld ?_
            try simp only [Act.put, List.getElem_toArray, List.getElem_cons_succ, List.getElem_cons_zero, List.setIfInBounds_toArray, List.set_cons_zero, List.set_cons_succ]
            refine wpAnyH_take (i := 3) (v := .slice (some ⟨g, 0, none⟩) n cap) rfl (by kernel_rfl) (by kernel_rfl) (by kernel_rfl) (fun _ _ _ h => h) (Or.inl ⟨by rfl, fun V h => by have h1 := h.1.cells.2.2.2.2.2.1; go_simp⟩) hHeld ?_
            try simp only [Act.put, List.getElem_toArray, List.getElem_cons_succ, List.getElem_cons_zero, List.setIfInBounds_toArray, List.set_cons_zero, List.set_cons_succ]
            refine wpAnyH_take (i := 4) (v := .int .i64 ((kk : Nat) : Int)) rfl (by kernel_rfl) (by kernel_rfl) (by kernel_rfl) (fun _ _ _ h => h) (yieldsIf_move (by rfl) _ rfl _ rfl) hHeld ?_
            try simp only [Act.put, List.getElem_toArray, List.getElem_cons_succ, List.getElem_cons_zero, List.setIfInBounds_toArray, List.set_cons_zero, List.set_cons_succ]
            refine wpAnyH_take (i := 5) (v := .agg (cellsT X)) rfl (by kernel_rfl) (by kernel_rfl) (by kernel_rfl) (fun _ _ _ h => h) (yieldsIf_run (by rfl) 78 _ rfl ⟨b5, 0, none⟩ rfl _ (fun V h => loadAt_row h.2 rfl rfl infoSP)) hHeld ?_
            try simp only [Act.put, List.getElem_toArray, List.getElem_cons_succ, List.getElem_cons_zero, List.setIfInBounds_toArray, List.set_cons_zero, List.set_cons_succ]
            refine wpAnyH_take (i := 6) (v := .pointer (some ⟨g, kk * 61, none⟩)) rfl (by kernel_rfl) (by kernel_rfl) (by kernel_rfl) (fun _ _ _ h => h) (Or.inl ⟨by rfl, fun V h => by go_simp⟩) hHeld ?_
            try simp only [Act.put, List.getElem_toArray, List.getElem_cons_succ, List.getElem_cons_zero, List.setIfInBounds_toArray, List.set_cons_zero, List.set_cons_succ]
            refine wpAnyH_ready (rs := [7]) (by kernel_rfl) (by simp) ?_
            refine AllReadyH.cons rfl (fun K hK => ?_) AllReadyH.nil
            rw [if_pos (by kernel_rfl)]
            have RE := Lib.hid ((HS.out.row.next SB.out).next SE.out)
            have hth := RE.out.at61 (k := kk) (by rw [HS.out.len]; exact hlt)
            refine wp_store_mid 78 _ _ rfl g (kk * 61) (cellsT X) rfl rfl hth infoSP (cellsT_one X) ?_
            clear hth
            have RF := Lib.hid (RE.out.set (by rw [HS.out.len]; exact hlt) X)
            have KF := Lib.hid (kp_setCells (cellsT X).toList (kk * 61) zE (Kp.refl' g zE))
            generalize hwF : World.setCells zE g (kk * 61) (cellsT X).toList = wF at *
            have HNF := Lib.hid (HNE.out.kp KF.out (fun e => hne2 e.symm))
            have KPFX := Lib.hid (KPE.out.same (KF.out.block b5 KPE.out.lt (by have := L5.out; have := HS.out.row.lt; omega)))
            have KBF := Lib.hid (BBlk.same (KBB.out.next SE.out) (KF.out.block b6 (KBB.out.next SE.out).lt (by have := L6.out; have := HS.out.row.lt; omega)))
            have OWF := Lib.hid (own_kp (own_below (own_below HS.out.own SB.out) SE.out) KF.out hgl)
            have KPF := Lib.hid ((Kp.of (g := g) (bw_trans SB.out SE.out)).trans' KF.out)
            clear hwF
            refine hK.out _ _ ⟨HNF.out, KPFX.out⟩ (fun hHeld => ?_)
            clear hK
            try simp only [Act.put, List.getElem_toArray, List.getElem_cons_succ, List.getElem_cons_zero, List.setIfInBounds_toArray, List.set_cons_zero, List.set_cons_succ]
            refine wpAnyH_done (by kernel_rfl) ?_ _
            clear hHeld KPFX KPE HNE KPB KBB KPA KBA SA RE HR6 HN6 SE BE SB
            cases ok with
            | false =>
              have e1 := Lib.hid (HS.out.no rfl)
              have OW2 := Lib.hid (show wF.ownsRow base 66 11 _ (outsI t (x.l.take (kk + 1))).length (outRow (outsI t (x.l.take (kk + 1)))) from e1.out ▸ OWF.out)
              have RW2 := Lib.hid (show WRow wF g (mixP t x.l (kk + 1)) from HS.out.set ▸ RF.out)
              have KW2 := Lib.hid (HS.out.kp.trans' KPF.out)
              clear RF OWF KPF KBF HNF HST HSB HSR HS hws HB1 KF L5 L6 N56
              go_wp2_with fail
              go_roundg (n - kk - 1)
              case measure => omega
              case rel => exact ⟨kk + 1, by omega, by go_num, OW2.out, RW2.out, KW2.out⟩
            | true =>
              have OC := Lib.hid (out_one (kk, Mc))
              have hc0 := Lib.hid (HS.out.yes rfl).2.1
              have hL : L.length ≤ 16 := by rw [hc0.out]; exact hc16
              have hwb : base ≤ wF.heap.size := Nat.le_trans hws KPF.out.size
              have hol := own_len HS.out.own
              clear KF HNF HST HSB HSR HB1 L5 L6 N56
              go_wp2_with (first
                | (with_reducible refine wpList_bq rfl _ rfl b6 rfl Mc KBF.out ?_)
                | (with_reducible refine wpList_built rfl 66 _ rfl (cellsO (kk, Mc)) (by kernel_rfl) ?_)
                | (with_reducible refine wpList_out1 rfl _ rfl (kk, Mc) rfl ?_)
                | (at_builtin; refine wpList_append_lies _ (by rfl) _ _ _ (by rfl) base 66 i0 (.agg (cellsO (0, zeroM))) 11 88 Tryz.underlying60 hi hz0 hz1 hz2 (by rfl) (by decide) _ L.length _ (by rfl) (OWF.out.alloc (.cells (cellsO (kk, Mc)) 66)) ⟨wF.heap.size, 0, none⟩ 1 1 (cellsO (kk, Mc)).toList (by rfl) (by rfl) (World.news_of_block (heap_alloc_new wF _)) OC.out (by decide) (by unfold maxLen; omega) (by omega) (by simp; omega) _ rfl ?_; intro g1 cap1 y1 hown1 hgrow hat hlt1; have HOY := Lib.hid hown1; have GS := Lib.hid (fun i (hi : i < base) => grown_same hgrow (fun x hx => (OWF.out.lt x hx).1) hi hwb); have GR := Lib.hid (grown_kp (HS.out.kp.trans' KPF.out) HBA.out hwb hgrow (fun x hx => (OWF.out.lt x hx).1)); have GZ := Lib.hid (show g < y1.heap.size by have := hgrow.size; simp at this; omega); clear hgrow hat hlt1))
              go_roundg 0
              case measure => exact (HS.out.yes rfl).2.2.2.2
              case rel => exact sni_next HS.out hlt HOY.out (RF.out.same (GS.out g hgl) GZ.out) GR.out
          refine AllReadyH.cons rfl (fun K hK => ?_) AllReadyH.nil
          go_simp
          obtain ⟨z4, hW4⟩ : ∃ z, World.alloc z1 (.cells (cellsB zeroM) 49) = z := ⟨_, rfl⟩
          refine Eq.mp (congrArg (K _) hW4.symm) ?_
          generalize hb4 : Array.size (World.heap z1) = b6
          have A4 := Lib.hid (al_s S1.out hW4 hb4)
          have S4 := Lib.hid A4.out.below
          have L6 := Lib.hid A4.out.ge
          have Q4 := Lib.hid (show BBlk 49 z4 b6 zeroM from A4.out.new)
          clear hW4 hb4 hHeld
          refine hK.out _ _ S4.out (fun hHeld => ?_)
          clear hK
          try simp only [Act.put, List.getElem_toArray, List.getElem_cons_succ, List.getElem_cons_zero, List.setIfInBounds_toArray, List.set_cons_zero, List.set_cons_succ]
          refine wpAnyH_ready (rs := [16]) (by kernel_rfl) (by simp) ?_
          refine AllReadyH.cons rfl (fun K hK => ?_) AllReadyH.nil
          go_simp
          obtain ⟨z5, hW5⟩ : ∃ z, World.alloc z4 (.cells (cellsT zeroP) 78) = z := ⟨_, rfl⟩
          refine Eq.mp (congrArg (K _) hW5.symm) ?_
          generalize hb5 : Array.size (World.heap z4) = b5
          have A5 := Lib.hid (al_s S4.out hW5 hb5)
          have S5 := Lib.hid A5.out.below
          have L5 := Lib.hid A5.out.ge
          have P5 := Lib.hid (show PtBlk 78 z5 b5 zeroP from A5.out.new)
          have Q5 := Lib.hid (BBlk.next Q4.out A5.out.next)
          have N56 := Lib.hid (show b5 ≠ b6 by have a := Q4.out.lt; have b := A5.out.eq; omega)
          clear hW5 hb5 hHeld
          refine hK.out _ _ S5.out (fun hHeld => ?_)
          clear hK
          try simp only [Act.put, List.getElem_toArray, List.getElem_cons_succ, List.getElem_cons_zero, List.setIfInBounds_toArray, List.set_cons_zero, List.set_cons_succ]
          refine wpAnyH_ready (rs := [18]) (by kernel_rfl) (by simp) ?_
          refine AllReadyH.cons rfl (fun K hK => ?_) AllReadyH.nil
          rw [if_pos (by kernel_rfl)]
          refine wp_store_row 78 _ _ rfl b5 (cellsT X) rfl rfl 78 _ P5.out infoSP rfl (cellsT_one X) ?_
          have SA := Lib.hid (below_row S5.out L5.out (cellsT X))
          have KPA := Lib.hid (PtBlk.row P5.out X)
          have KBA := Lib.hid (bp_row_other Q5.out (cellsT X) N56.out.symm)
          refine hK.out _ _ SA.out (fun hHeld => ?_)
          clear hK
          try simp only [Act.put, List.getElem_toArray, List.getElem_cons_succ, List.getElem_cons_zero, List.setIfInBounds_toArray, List.set_cons_zero, List.set_cons_succ]
          refine wpAnyH_ready (rs := [19]) (by kernel_rfl) (by simp) ?_
          refine AllReadyH.cons rfl (fun K hK => ?_) AllReadyH.nil
          rw [if_pos (by kernel_rfl)]
          refine wp_store_row 49 _ _ rfl b6 (cellsB Mc) rfl rfl 49 _ KBA.out infoSB rfl (cellsB_one Mc) ?_
          have SB := Lib.hid (below_row SA.out L6.out (cellsB Mc))
          have KPB := Lib.hid (pt_row_other KPA.out (cellsB Mc) N56.out)
          have KBB := Lib.hid (BBlk.row KBA.out Mc)
          refine hK.out _ _ SB.out (fun hHeld => ?_)
          clear hK
          try simp only [Act.put, List.getElem_toArray, List.getElem_cons_succ, List.getElem_cons_zero, List.setIfInBounds_toArray, List.set_cons_zero, List.set_cons_succ]
          refine wpAnyH_take (i := 20) (v := .bool ok) rfl (by kernel_rfl) (by kernel_rfl) (by kernel_rfl) (fun _ _ _ h => h) (Or.inl ⟨by rfl, fun V h => by go_simp⟩) hHeld ?_
          try simp only [Act.put, List.getElem_toArray, List.getElem_cons_succ, List.getElem_cons_zero, List.setIfInBounds_toArray, List.set_cons_zero, List.set_cons_succ]
          refine wpAnyH_done (by kernel_rfl) ?_ _
          clear hHeld
          generalize hwE : World.setRow (World.setRow z5 b5 (cellsT X)) b6 (cellsB Mc) = wE at *
          clear hwE
          go_upto_region 6 with (fail)
          have HN6 := Lib.hid (HSB.out.next SB.out)
          have HR6 := Lib.hid (range_next HSR.out HS.out.row.lt SB.out)
          have BE := Lib.hid (Below.refl wE.heap.size wE)
          refine wp_region_held_drew (S := fun V => XBlk V xb i t (some ⟨g, 0, none⟩) n cap mb ((x.r : Nat) : Int) ∧ PtBlk 78 V b5 X) (by kernel_rfl) ⟨HN6.out.drew, KPB.out.next BE.out.drew⟩ (fun hHeld => ?_)
          generalize hz6 : World.drew wE = zE at hHeld ⊢
          have SE := Lib.hid (show Below wE.heap.size wE zE from hz6 ▸ BE.out.drew)
          have HNE := Lib.hid (HN6.out.next SE.out)
          have KPE := Lib.hid (KPB.out.next SE.out)
          clear hz6
          try simp only [Act.put]
          refine wpAnyH_take (i := 0) (v := .pointer (some ⟨xb, 0, none⟩)) rfl (by kernel_rfl) (by kernel_rfl) (by kernel_rfl) (fun _ _ _ h => h) (yieldsIf_move (by rfl) _ rfl _ rfl) hHeld ?_
          try simp only [Act.put, List.getElem_toArray, List.getElem_cons_succ, List.getElem_cons_zero, List.setIfInBounds_toArray, List.set_cons_zero, List.set_cons_succ]
          refine wpAnyH_take (i := 1) (v := .pointer (some ⟨xb, 0, none⟩)) rfl (by kernel_rfl) (by kernel_rfl) (by kernel_rfl) (fun _ _ _ h => h) (Or.inl ⟨by rfl, fun V h => by go_simp⟩) hHeld ?_
          try simp only [Act.put, List.getElem_toArray, List.getElem_cons_succ, List.getElem_cons_zero, List.setIfInBounds_toArray, List.set_cons_zero, List.set_cons_succ]
          refine wpAnyH_take (i := 2) (v := .pointer (some ⟨xb, 5, none⟩)) rfl (by kernel_rfl) (by kernel_rfl) (by kernel_rfl) (fun _ _ _ h => h) (Or.inl ⟨by rfl, fun V h => by go_simp⟩) hHeld ?_
          try simp only [Act.put, List.getElem_toArray, List.getElem_cons_succ, List.getElem_cons_zero, List.setIfInBounds_toArray, List.set_cons_zero, List.set_cons_succ]
          refine wpAnyH_take (i := 3) (v := .slice (some ⟨g, 0, none⟩) n cap) rfl (by kernel_rfl) (by kernel_rfl) (by kernel_rfl) (fun _ _ _ h => h) (Or.inl ⟨by rfl, fun V h => by have h1 := h.1.cells.2.2.2.2.2.1; go_simp⟩) hHeld ?_
          try simp only [Act.put, List.getElem_toArray, List.getElem_cons_succ, List.getElem_cons_zero, List.setIfInBounds_toArray, List.set_cons_zero, List.set_cons_succ]
          refine wpAnyH_take (i := 4) (v := .int .i64 ((kk : Nat) : Int)) rfl (by kernel_rfl) (by kernel_rfl) (by kernel_rfl) (fun _ _ _ h => h) (yieldsIf_move (by rfl) _ rfl _ rfl) hHeld ?_
          try simp only [Act.put, List.getElem_toArray, List.getElem_cons_succ, List.getElem_cons_zero, List.setIfInBounds_toArray, List.set_cons_zero, List.set_cons_succ]
          refine wpAnyH_take (i := 5) (v := .agg (cellsT X)) rfl (by kernel_rfl) (by kernel_rfl) (by kernel_rfl) (fun _ _ _ h => h) (yieldsIf_run (by rfl) 78 _ rfl ⟨b5, 0, none⟩ rfl _ (fun V h => loadAt_row h.2 rfl rfl infoSP)) hHeld ?_
          try simp only [Act.put, List.getElem_toArray, List.getElem_cons_succ, List.getElem_cons_zero, List.setIfInBounds_toArray, List.set_cons_zero, List.set_cons_succ]
          refine wpAnyH_take (i := 6) (v := .pointer (some ⟨g, kk * 61, none⟩)) rfl (by kernel_rfl) (by kernel_rfl) (by kernel_rfl) (fun _ _ _ h => h) (Or.inl ⟨by rfl, fun V h => by go_simp⟩) hHeld ?_
          try simp only [Act.put, List.getElem_toArray, List.getElem_cons_succ, List.getElem_cons_zero, List.setIfInBounds_toArray, List.set_cons_zero, List.set_cons_succ]
          refine wpAnyH_ready (rs := [7]) (by kernel_rfl) (by simp) ?_
          refine AllReadyH.cons rfl (fun K hK => ?_) AllReadyH.nil
          rw [if_pos (by kernel_rfl)]
          have RE := Lib.hid ((HS.out.row.next SB.out).next SE.out)
          have hth := RE.out.at61 (k := kk) (by rw [HS.out.len]; exact hlt)
          refine wp_store_mid 78 _ _ rfl g (kk * 61) (cellsT X) rfl rfl hth infoSP (cellsT_one X) ?_
          clear hth
          have RF := Lib.hid (RE.out.set (by rw [HS.out.len]; exact hlt) X)
          have KF := Lib.hid (kp_setCells (cellsT X).toList (kk * 61) zE (Kp.refl' g zE))
          generalize hwF : World.setCells zE g (kk * 61) (cellsT X).toList = wF at *
          have HNF := Lib.hid (HNE.out.kp KF.out (fun e => hne2 e.symm))
          have KPFX := Lib.hid (KPE.out.same (KF.out.block b5 KPE.out.lt (by have := L5.out; have := HS.out.row.lt; omega)))
          have KBF := Lib.hid (BBlk.same (KBB.out.next SE.out) (KF.out.block b6 (KBB.out.next SE.out).lt (by have := L6.out; have := HS.out.row.lt; omega)))
          have OWF := Lib.hid (own_kp (own_below (own_below HS.out.own SB.out) SE.out) KF.out hgl)
          have KPF := Lib.hid ((Kp.of (g := g) (bw_trans SB.out SE.out)).trans' KF.out)
          clear hwF
          refine hK.out _ _ ⟨HNF.out, KPFX.out⟩ (fun hHeld => ?_)
          clear hK
          try simp only [Act.put, List.getElem_toArray, List.getElem_cons_succ, List.getElem_cons_zero, List.setIfInBounds_toArray, List.set_cons_zero, List.set_cons_succ]
          refine wpAnyH_done (by kernel_rfl) ?_ _
          clear hHeld KPFX KPE HNE KPB KBB KPA KBA SA RE HR6 HN6 SE BE SB
          cases ok with
          | false =>
            have e1 := Lib.hid (HS.out.no rfl)
            have OW2 := Lib.hid (show wF.ownsRow base 66 11 _ (outsI t (x.l.take (kk + 1))).length (outRow (outsI t (x.l.take (kk + 1)))) from e1.out ▸ OWF.out)
            have RW2 := Lib.hid (show WRow wF g (mixP t x.l (kk + 1)) from HS.out.set ▸ RF.out)
            have KW2 := Lib.hid (HS.out.kp.trans' KPF.out)
            clear RF OWF KPF KBF HNF HST HSB HSR HS hws HB1 KF L5 L6 N56
            go_wp2_with fail
            go_roundg (n - kk - 1)
            case measure => omega
            case rel => exact ⟨kk + 1, by omega, by go_num, OW2.out, RW2.out, KW2.out⟩
          | true =>
            have OC := Lib.hid (out_one (kk, Mc))
            have hc0 := Lib.hid (HS.out.yes rfl).2.1
            have hL : L.length ≤ 16 := by rw [hc0.out]; exact hc16
            have hwb : base ≤ wF.heap.size := Nat.le_trans hws KPF.out.size
            have hol := own_len HS.out.own
            clear KF HNF HST HSB HSR HB1 L5 L6 N56
            go_wp2_with (first
              | (with_reducible refine wpList_bq rfl _ rfl b6 rfl Mc KBF.out ?_)
              | (with_reducible refine wpList_built rfl 66 _ rfl (cellsO (kk, Mc)) (by kernel_rfl) ?_)
              | (with_reducible refine wpList_out1 rfl _ rfl (kk, Mc) rfl ?_)
              | (at_builtin; refine wpList_append_lies _ (by rfl) _ _ _ (by rfl) base 66 i0 (.agg (cellsO (0, zeroM))) 11 88 Tryz.underlying60 hi hz0 hz1 hz2 (by rfl) (by decide) _ L.length _ (by rfl) (OWF.out.alloc (.cells (cellsO (kk, Mc)) 66)) ⟨wF.heap.size, 0, none⟩ 1 1 (cellsO (kk, Mc)).toList (by rfl) (by rfl) (World.news_of_block (heap_alloc_new wF _)) OC.out (by decide) (by unfold maxLen; omega) (by omega) (by simp; omega) _ rfl ?_; intro g1 cap1 y1 hown1 hgrow hat hlt1; have HOY := Lib.hid hown1; have GS := Lib.hid (fun i (hi : i < base) => grown_same hgrow (fun x hx => (OWF.out.lt x hx).1) hi hwb); have GR := Lib.hid (grown_kp (HS.out.kp.trans' KPF.out) HBA.out hwb hgrow (fun x hx => (OWF.out.lt x hx).1)); have GZ := Lib.hid (show g < y1.heap.size by have := hgrow.size; simp at this; omega); clear hgrow hat hlt1))
            go_roundg 0
            case measure => exact (HS.out.yes rfl).2.2.2.2
            case rel => exact sni_next HS.out hlt HOY.out (RF.out.same (GS.out g hgl) GZ.out) GR.out
        refine AllReadyH.cons rfl (fun K hK => ?_) ?_
        · go_simp
          obtain ⟨z6, hW6⟩ : ∃ z, World.alloc z0 (.cells (cellsT zeroP) 78) = z := ⟨_, rfl⟩
          refine Eq.mp (congrArg (K _) hW6.symm) ?_
          generalize hb6 : Array.size (World.heap z0) = b5
          have A6 := Lib.hid (al_s S0.out hW6 hb6)
          have S6 := Lib.hid A6.out.below
          have L5 := Lib.hid A6.out.ge
          have P6 := Lib.hid (show PtBlk 78 z6 b5 zeroP from A6.out.new)
          clear hW6 hb6 hHeld
          refine hK.out _ _ S6.out (fun hHeld => ?_)
          clear hK
          try simp only [Act.put, List.getElem_toArray, List.getElem_cons_succ, List.getElem_cons_zero, List.setIfInBounds_toArray, List.set_cons_zero, List.set_cons_succ]
          refine wpAnyH_ready (rs := [11, 17]) (by kernel_rfl) (by simp) ?_
          refine AllReadyH.cons rfl (fun K hK => ?_) ?_
          · go_simp
            refine (CS.out pc X Mc ok _ (HST.out.next S6.out) HS.out.send HS.out.inv).mono ?_
            rintro e z7 ⟨rfl, hz⟩
            have S7 := Lib.hid (bw_trans S6.out hz)
            have P7 := Lib.hid (PtBlk.next P6.out hz)
            clear hz hHeld
            go_simp
            refine hK.out _ _ S7.out (fun hHeld => ?_)
            clear hK
            try simp only [Act.put, List.getElem_toArray, List.getElem_cons_succ, List.getElem_cons_zero, List.setIfInBounds_toArray, List.set_cons_zero, List.set_cons_succ]
            refine wpAnyH_take (i := 12) (v := .tuple #[.agg (cellsT X), Mc.val, .bool ok]) rfl (by kernel_rfl) (by kernel_rfl) (by kernel_rfl) (fun _ _ _ h => h) (Or.inl ⟨by rfl, fun V h => by go_simp⟩) hHeld ?_
            try simp only [Act.put, List.getElem_toArray, List.getElem_cons_succ, List.getElem_cons_zero, List.setIfInBounds_toArray, List.set_cons_zero, List.set_cons_succ]
            refine wpAnyH_take (i := 13) (v := .agg (cellsT X)) rfl (by kernel_rfl) (by kernel_rfl) (by kernel_rfl) (fun _ _ _ h => h) (Or.inl ⟨by rfl, fun V h => by go_simp⟩) hHeld ?_
            try simp only [Act.put, List.getElem_toArray, List.getElem_cons_succ, List.getElem_cons_zero, List.setIfInBounds_toArray, List.set_cons_zero, List.set_cons_succ]
            refine wpAnyH_take (i := 14) (v := Mc.val) rfl (by kernel_rfl) (by kernel_rfl) (by kernel_rfl) (fun _ _ _ h => h) (Or.inl ⟨by rfl, fun V h => by go_simp⟩) hHeld ?_
            try simp only [Act.put, List.getElem_toArray, List.getElem_cons_succ, List.getElem_cons_zero, List.setIfInBounds_toArray, List.set_cons_zero, List.set_cons_succ]
            refine wpAnyH_take (i := 15) (v := .bool ok) rfl (by kernel_rfl) (by kernel_rfl) (by kernel_rfl) (fun _ _ _ h => h) (Or.inl ⟨by rfl, fun V h => by go_simp⟩) hHeld ?_
            try simp only [Act.put, List.getElem_toArray, List.getElem_cons_succ, List.getElem_cons_zero, List.setIfInBounds_toArray, List.set_cons_zero, List.set_cons_succ]
            refine wpAnyH_ready (rs := [17]) (by kernel_rfl) (by simp) ?_
            refine AllReadyH.cons rfl (fun K hK => ?_) AllReadyH.nil
            go_simp
            obtain ⟨z8, hW8⟩ : ∃ z, World.alloc z7 (.cells (cellsB zeroM) 49) = z := ⟨_, rfl⟩
            refine Eq.mp (congrArg (K _) hW8.symm) ?_
            generalize hb8 : Array.size (World.heap z7) = b6
            have A8 := Lib.hid (al_s S7.out hW8 hb8)
            have S8 := Lib.hid A8.out.below
            have L6 := Lib.hid A8.out.ge
            have Q8 := Lib.hid (show BBlk 49 z8 b6 zeroM from A8.out.new)
            have P8 := Lib.hid (PtBlk.next P7.out A8.out.next)
            have N56 := Lib.hid (show b5 ≠ b6 by have a := P7.out.lt; have b := A8.out.eq; omega)
            clear hW8 hb8 hHeld
            refine hK.out _ _ S8.out (fun hHeld => ?_)
            clear hK
            try simp only [Act.put, List.getElem_toArray, List.getElem_cons_succ, List.getElem_cons_zero, List.setIfInBounds_toArray, List.set_cons_zero, List.set_cons_succ]
            refine wpAnyH_ready (rs := [18]) (by kernel_rfl) (by simp) ?_
            refine AllReadyH.cons rfl (fun K hK => ?_) AllReadyH.nil
            rw [if_pos (by kernel_rfl)]
            refine wp_store_row 78 _ _ rfl b5 (cellsT X) rfl rfl 78 _ P8.out infoSP rfl (cellsT_one X) ?_
            have SA := Lib.hid (below_row S8.out L5.out (cellsT X))
            have KPA := Lib.hid (PtBlk.row P8.out X)
            have KBA := Lib.hid (bp_row_other Q8.out (cellsT X) N56.out.symm)
            refine hK.out _ _ SA.out (fun hHeld => ?_)
            clear hK
            try simp only [Act.put, List.getElem_toArray, List.getElem_cons_succ, List.getElem_cons_zero, List.setIfInBounds_toArray, List.set_cons_zero, List.set_cons_succ]
            refine wpAnyH_ready (rs := [19]) (by kernel_rfl) (by simp) ?_
            refine AllReadyH.cons rfl (fun K hK => ?_) AllReadyH.nil
            rw [if_pos (by kernel_rfl)]
            refine wp_store_row 49 _ _ rfl b6 (cellsB Mc) rfl rfl 49 _ KBA.out infoSB rfl (cellsB_one Mc) ?_
            have SB := Lib.hid (below_row SA.out L6.out (cellsB Mc))
            have KPB := Lib.hid (pt_row_other KPA.out (cellsB Mc) N56.out)
            have KBB := Lib.hid (BBlk.row KBA.out Mc)
            refine hK.out _ _ SB.out (fun hHeld => ?_)
            clear hK
            try simp only [Act.put, List.getElem_toArray, List.getElem_cons_succ, List.getElem_cons_zero, List.setIfInBounds_toArray, List.set_cons_zero, List.set_cons_succ]
            refine wpAnyH_take (i := 20) (v := .bool ok) rfl (by kernel_rfl) (by kernel_rfl) (by kernel_rfl) (fun _ _ _ h => h) (Or.inl ⟨by rfl, fun V h => by go_simp⟩) hHeld ?_
            try simp only [Act.put, List.getElem_toArray, List.getElem_cons_succ, List.getElem_cons_zero, List.setIfInBounds_toArray, List.set_cons_zero, List.set_cons_succ]
            refine wpAnyH_done (by kernel_rfl) ?_ _
            clear hHeld
            generalize hwE : World.setRow (World.setRow z8 b5 (cellsT X)) b6 (cellsB Mc) = wE at *
            clear hwE
            go_upto_region 6 with (fail)
            have HN6 := Lib.hid (HSB.out.next SB.out)
            have HR6 := Lib.hid (range_next HSR.out HS.out.row.lt SB.out)
            have BE := Lib.hid (Below.refl wE.heap.size wE)
            refine wp_region_held_drew (S := fun V => XBlk V xb i t (some ⟨g, 0, none⟩) n cap mb ((x.r : Nat) : Int) ∧ PtBlk 78 V b5 X) (by kernel_rfl) ⟨HN6.out.drew, KPB.out.next BE.out.drew⟩ (fun hHeld => ?_)
            generalize hz6 : World.drew wE = zE at hHeld ⊢
            have SE := Lib.hid (show Below wE.heap.size wE zE from hz6 ▸ BE.out.drew)
            have HNE := Lib.hid (HN6.out.next SE.out)
            have KPE := Lib.hid (KPB.out.next SE.out)
            clear hz6
            try simp only [Act.put]
            refine wpAnyH_take (i := 0) (v := .pointer (some ⟨xb, 0, none⟩)) rfl (by kernel_rfl) (by kernel_rfl) (by kernel_rfl) (fun _ _ _ h => h) (yieldsIf_move (by rfl) _ rfl _ rfl) hHeld ?_
            try simp only [Act.put, List.getElem_toArray, List.getElem_cons_succ, List.getElem_cons_zero, List.setIfInBounds_toArray, List.set_cons_zero, List.set_cons_succ]
            refine wpAnyH_take (i := 1) (v := .pointer (some ⟨xb, 0, none⟩)) rfl (by kernel_rfl) (by kernel_rfl) (by kernel_rfl) (fun _ _ _ h => h) (Or.inl ⟨by rfl, fun V h => by go_simp⟩) hHeld ?_
            try simp only [Act.put, List.getElem_toArray, List.getElem_cons_succ, List.getElem_cons_zero, List.setIfInBounds_toArray, List.set_cons_zero, List.set_cons_succ]
            refine wpAnyH_take (i := 2) (v := .pointer (some ⟨xb, 5, none⟩)) rfl (by kernel_rfl) (by kernel_rfl) (by kernel_rfl) (fun _ _ _ h => h) (Or.inl ⟨by rfl, fun V h => by go_simp⟩) hHeld ?_
            try simp only [Act.put, List.getElem_toArray, List.getElem_cons_succ, List.getElem_cons_zero, List.setIfInBounds_toArray, List.set_cons_zero, List.set_cons_succ]
            refine wpAnyH_take (i := 3) (v := .slice (some ⟨g, 0, none⟩) n cap) rfl (by kernel_rfl) (by kernel_rfl) (by kernel_rfl) (fun _ _ _ h => h) (Or.inl ⟨by rfl, fun V h => by have h1 := h.1.cells.2.2.2.2.2.1; go_simp⟩) hHeld ?_
            try simp only [Act.put, List.getElem_toArray, List.getElem_cons_succ, List.getElem_cons_zero, List.setIfInBounds_toArray, List.set_cons_zero, List.set_cons_succ]
            refine wpAnyH_take (i := 4) (v := .int .i64 ((kk : Nat) : Int)) rfl (by kernel_rfl) (by kernel_rfl) (by kernel_rfl) (fun _ _ _ h => h) (yieldsIf_move (by rfl) _ rfl _ rfl) hHeld ?_
            try simp only [Act.put, List.getElem_toArray, List.getElem_cons_succ, List.getElem_cons_zero, List.setIfInBounds_toArray, List.set_cons_zero, List.set_cons_succ]
            refine wpAnyH_take (i := 5) (v := .agg (cellsT X)) rfl (by kernel_rfl) (by kernel_rfl) (by kernel_rfl) (fun _ _ _ h => h) (yieldsIf_run (by rfl) 78 _ rfl ⟨b5, 0, none⟩ rfl _ (fun V h => loadAt_row h.2 rfl rfl infoSP)) hHeld ?_
            try simp only [Act.put, List.getElem_toArray, List.getElem_cons_succ, List.getElem_cons_zero, List.setIfInBounds_toArray, List.set_cons_zero, List.set_cons_succ]
            refine wpAnyH_take (i := 6) (v := .pointer (some ⟨g, kk * 61, none⟩)) rfl (by kernel_rfl) (by kernel_rfl) (by kernel_rfl) (fun _ _ _ h => h) (Or.inl ⟨by rfl, fun V h => by go_simp⟩) hHeld ?_
            try simp only [Act.put, List.getElem_toArray, List.getElem_cons_succ, List.getElem_cons_zero, List.setIfInBounds_toArray, List.set_cons_zero, List.set_cons_succ]
            refine wpAnyH_ready (rs := [7]) (by kernel_rfl) (by simp) ?_
            refine AllReadyH.cons rfl (fun K hK => ?_) AllReadyH.nil
            rw [if_pos (by kernel_rfl)]
            have RE := Lib.hid ((HS.out.row.next SB.out).next SE.out)
            have hth := RE.out.at61 (k := kk) (by rw [HS.out.len]; exact hlt)
            refine wp_store_mid 78 _ _ rfl g (kk * 61) (cellsT X) rfl rfl hth infoSP (cellsT_one X) ?_
            clear hth
            have RF := Lib.hid (RE.out.set (by rw [HS.out.len]; exact hlt) X)
            have KF := Lib.hid (kp_setCells (cellsT X).toList (kk * 61) zE (Kp.refl' g zE))
            generalize hwF : World.setCells zE g (kk * 61) (cellsT X).toList = wF at *
            have HNF := Lib.hid (HNE.out.kp KF.out (fun e => hne2 e.symm))
            have KPFX := Lib.hid (KPE.out.same (KF.out.block b5 KPE.out.lt (by have := L5.out; have := HS.out.row.lt; omega)))
            have KBF := Lib.hid (BBlk.same (KBB.out.next SE.out) (KF.out.block b6 (KBB.out.next SE.out).lt (by have := L6.out; have := HS.out.row.lt; omega)))
            have OWF := Lib.hid (own_kp (own_below (own_below HS.out.own SB.out) SE.out) KF.out hgl)
            have KPF := Lib.hid ((Kp.of (g := g) (bw_trans SB.out SE.out)).trans' KF.out)
            clear hwF
            refine hK.out _ _ ⟨HNF.out, KPFX.out⟩ (fun hHeld => ?_)
            clear hK
            try simp only [Act.put, List.getElem_toArray, List.getElem_cons_succ, List.getElem_cons_zero, List.setIfInBounds_toArray, List.set_cons_zero, List.set_cons_succ]
            refine wpAnyH_done (by kernel_rfl) ?_ _
            clear hHeld KPFX KPE HNE KPB KBB KPA KBA SA RE HR6 HN6 SE BE SB
            cases ok with
            | false =>
              have e1 := Lib.hid (HS.out.no rfl)
              have OW2 := Lib.hid (show wF.ownsRow base 66 11 _ (outsI t (x.l.take (kk + 1))).length (outRow (outsI t (x.l.take (kk + 1)))) from e1.out ▸ OWF.out)
              have RW2 := Lib.hid (show WRow wF g (mixP t x.l (kk + 1)) from HS.out.set ▸ RF.out)
              have KW2 := Lib.hid (HS.out.kp.trans' KPF.out)
              clear RF OWF KPF KBF HNF HST HSB HSR HS hws HB1 KF L5 L6 N56
              go_wp2_with fail
              go_roundg (n - kk - 1)
              case measure => omega
              case rel => exact ⟨kk + 1, by omega, by go_num, OW2.out, RW2.out, KW2.out⟩
            | true =>
              have OC := Lib.hid (out_one (kk, Mc))
              have hc0 := Lib.hid (HS.out.yes rfl).2.1
              have hL : L.length ≤ 16 := by rw [hc0.out]; exact hc16
              have hwb : base ≤ wF.heap.size := Nat.le_trans hws KPF.out.size
              have hol := own_len HS.out.own
              clear KF HNF HST HSB HSR HB1 L5 L6 N56
              go_wp2_with (first
                | (with_reducible refine wpList_bq rfl _ rfl b6 rfl Mc KBF.out ?_)
                | (with_reducible refine wpList_built rfl 66 _ rfl (cellsO (kk, Mc)) (by kernel_rfl) ?_)
                | (with_reducible refine wpList_out1 rfl _ rfl (kk, Mc) rfl ?_)
                | (at_builtin; refine wpList_append_lies _ (by rfl) _ _ _ (by rfl) base 66 i0 (.agg (cellsO (0, zeroM))) 11 88 Tryz.underlying60 hi hz0 hz1 hz2 (by rfl) (by decide) _ L.length _ (by rfl) (OWF.out.alloc (.cells (cellsO (kk, Mc)) 66)) ⟨wF.heap.size, 0, none⟩ 1 1 (cellsO (kk, Mc)).toList (by rfl) (by rfl) (World.news_of_block (heap_alloc_new wF _)) OC.out (by decide) (by unfold maxLen; omega) (by omega) (by simp; omega) _ rfl ?_; intro g1 cap1 y1 hown1 hgrow hat hlt1; have HOY := Lib.hid hown1; have GS := Lib.hid (fun i (hi : i < base) => grown_same hgrow (fun x hx => (OWF.out.lt x hx).1) hi hwb); have GR := Lib.hid (grown_kp (HS.out.kp.trans' KPF.out) HBA.out hwb hgrow (fun x hx => (OWF.out.lt x hx).1)); have GZ := Lib.hid (show g < y1.heap.size by have := hgrow.size; simp at this; omega); clear hgrow hat hlt1))
              go_roundg 0
              case measure => exact (HS.out.yes rfl).2.2.2.2
              case rel => exact sni_next HS.out hlt HOY.out (RF.out.same (GS.out g hgl) GZ.out) GR.out
          refine AllReadyH.cons rfl (fun K hK => ?_) AllReadyH.nil
          go_simp
          obtain ⟨z9, hW9⟩ : ∃ z, World.alloc z6 (.cells (cellsB zeroM) 49) = z := ⟨_, rfl⟩
          refine Eq.mp (congrArg (K _) hW9.symm) ?_
          generalize hb9 : Array.size (World.heap z6) = b6
          have A9 := Lib.hid (al_s S6.out hW9 hb9)
          have S9 := Lib.hid A9.out.below
          have L6 := Lib.hid A9.out.ge
          have Q9 := Lib.hid (show BBlk 49 z9 b6 zeroM from A9.out.new)
          have P9 := Lib.hid (PtBlk.next P6.out A9.out.next)
          have N56 := Lib.hid (show b5 ≠ b6 by have a := P6.out.lt; have b := A9.out.eq; omega)
          clear hW9 hb9 hHeld
          refine hK.out _ _ S9.out (fun hHeld => ?_)
          clear hK
          try simp only [Act.put, List.getElem_toArray, List.getElem_cons_succ, List.getElem_cons_zero, List.setIfInBounds_toArray, List.set_cons_zero, List.set_cons_succ]
          refine wpAnyH_ready (rs := [11]) (by kernel_rfl) (by simp) ?_
          refine AllReadyH.cons rfl (fun K hK => ?_) AllReadyH.nil
          go_simp
          refine (CS.out pc X Mc ok _ (HST.out.next S9.out) HS.out.send HS.out.inv).mono ?_
          rintro e z10 ⟨rfl, hz⟩
          have S10 := Lib.hid (bw_trans S9.out hz)
          have P10 := Lib.hid (PtBlk.next P9.out hz)
          have Q10 := Lib.hid (BBlk.next Q9.out hz)
          clear hz hHeld
          go_simp
          refine hK.out _ _ S10.out (fun hHeld => ?_)
          clear hK
          try simp only [Act.put, List.getElem_toArray, List.getElem_cons_succ, List.getElem_cons_zero, List.setIfInBounds_toArray, List.set_cons_zero, List.set_cons_succ]
          refine wpAnyH_take (i := 12) (v := .tuple #[.agg (cellsT X), Mc.val, .bool ok]) rfl (by kernel_rfl) (by kernel_rfl) (by kernel_rfl) (fun _ _ _ h => h) (Or.inl ⟨by rfl, fun V h => by go_simp⟩) hHeld ?_
          try simp only [Act.put, List.getElem_toArray, List.getElem_cons_succ, List.getElem_cons_zero, List.setIfInBounds_toArray, List.set_cons_zero, List.set_cons_succ]
          refine wpAnyH_take (i := 13) (v := .agg (cellsT X)) rfl (by kernel_rfl) (by kernel_rfl) (by kernel_rfl) (fun _ _ _ h => h) (Or.inl ⟨by rfl, fun V h => by go_simp⟩) hHeld ?_
          try simp only [Act.put, List.getElem_toArray, List.getElem_cons_succ, List.getElem_cons_zero, List.setIfInBounds_toArray, List.set_cons_zero, List.set_cons_succ]
          refine wpAnyH_take (i := 14) (v := Mc.val) rfl (by kernel_rfl) (by kernel_rfl) (by kernel_rfl) (fun _ _ _ h => h) (Or.inl ⟨by rfl, fun V h => by go_simp⟩) hHeld ?_
          try simp only [Act.put, List.getElem_toArray, List.getElem_cons_succ, List.getElem_cons_zero, List.setIfInBounds_toArray, List.set_cons_zero, List.set_cons_succ]
          refine wpAnyH_take (i := 15) (v := .bool ok) rfl (by kernel_rfl) (by kernel_rfl) (by kernel_rfl) (fun _ _ _ h => h) (Or.inl ⟨by rfl, fun V h => by go_simp⟩) hHeld ?_
          try simp only [Act.put, List.getElem_toArray, List.getElem_cons_succ, List.getElem_cons_zero, List.setIfInBounds_toArray, List.set_cons_zero, List.set_cons_succ]
          refine wpAnyH_ready (rs := [18]) (by kernel_rfl) (by simp) ?_
          refine AllReadyH.cons rfl (fun K hK => ?_) AllReadyH.nil
          rw [if_pos (by kernel_rfl)]
          refine wp_store_row 78 _ _ rfl b5 (cellsT X) rfl rfl 78 _ P10.out infoSP rfl (cellsT_one X) ?_
          have SA := Lib.hid (below_row S10.out L5.out (cellsT X))
          have KPA := Lib.hid (PtBlk.row P10.out X)
          have KBA := Lib.hid (bp_row_other Q10.out (cellsT X) N56.out.symm)
          refine hK.out _ _ SA.out (fun hHeld => ?_)
          clear hK
          try simp only [Act.put, List.getElem_toArray, List.getElem_cons_succ, List.getElem_cons_zero, List.setIfInBounds_toArray, List.set_cons_zero, List.set_cons_succ]
          refine wpAnyH_ready (rs := [19]) (by kernel_rfl) (by simp) ?_
          refine AllReadyH.cons rfl (fun K hK => ?_) AllReadyH.nil
          rw [if_pos (by kernel_rfl)]
          refine wp_store_row 49 _ _ rfl b6 (cellsB Mc) rfl rfl 49 _ KBA.out infoSB rfl (cellsB_one Mc) ?_
          have SB := Lib.hid (below_row SA.out L6.out (cellsB Mc))
          have KPB := Lib.hid (pt_row_other KPA.out (cellsB Mc) N56.out)
          have KBB := Lib.hid (BBlk.row KBA.out Mc)
          refine hK.out _ _ SB.out (fun hHeld => ?_)
          clear hK
          try simp only [Act.put, List.getElem_toArray, List.getElem_cons_succ, List.getElem_cons_zero, List.setIfInBounds_toArray, List.set_cons_zero, List.set_cons_succ]
          refine wpAnyH_take (i := 20) (v := .bool ok) rfl (by kernel_rfl) (by kernel_rfl) (by kernel_rfl) (fun _ _ _ h => h) (Or.inl ⟨by rfl, fun V h => by go_simp⟩) hHeld ?_
          try simp only [Act.put, List.getElem_toArray, List.getElem_cons_succ, List.getElem_cons_zero, List.setIfInBounds_toArray, List.set_cons_zero, List.set_cons_succ]
          refine wpAnyH_done (by kernel_rfl) ?_ _
          clear hHeld
          generalize hwE : World.setRow (World.setRow z10 b5 (cellsT X)) b6 (cellsB Mc) = wE at *
          clear hwE
          go_upto_region 6 with (fail)
          have HN6 := Lib.hid (HSB.out.next SB.out)
          have HR6 := Lib.hid (range_next HSR.out HS.out.row.lt SB.out)
          have BE := Lib.hid (Below.refl wE.heap.size wE)
          refine wp_region_held_drew (S := fun V => XBlk V xb i t (some ⟨g, 0, none⟩) n cap mb ((x.r : Nat) : Int) ∧ PtBlk 78 V b5 X) (by kernel_rfl) ⟨HN6.out.drew, KPB.out.next BE.out.drew⟩ (fun hHeld => ?_)
          generalize hz6 : World.drew wE = zE at hHeld ⊢
          have SE := Lib.hid (show Below wE.heap.size wE zE from hz6 ▸ BE.out.drew)
          have HNE := Lib.hid (HN6.out.next SE.out)
          have KPE := Lib.hid (KPB.out.next SE.out)
          clear hz6
          try simp only [Act.put]
          refine wpAnyH_take (i := 0) (v := .pointer (some ⟨xb, 0, none⟩)) rfl (by kernel_rfl) (by kernel_rfl) (by kernel_rfl) (fun _ _ _ h => h) (yieldsIf_move (by rfl) _ rfl _ rfl) hHeld ?_
          try simp only [Act.put, List.getElem_toArray, List.getElem_cons_succ, List.getElem_cons_zero, List.setIfInBounds_toArray, List.set_cons_zero, List.set_cons_succ]
          refine wpAnyH_take (i := 1) (v := .pointer (some ⟨xb, 0, none⟩)) rfl (by kernel_rfl) (by kernel_rfl) (by kernel_rfl) (fun _ _ _ h => h) (Or.inl ⟨by rfl, fun V h => by go_simp⟩) hHeld ?_
          try simp only [Act.put, List.getElem_toArray, List.getElem_cons_succ, List.getElem_cons_zero, List.setIfInBounds_toArray, List.set_cons_zero, List.set_cons_succ]
          refine wpAnyH_take (i := 2) (v := .pointer (some ⟨xb, 5, none⟩)) rfl (by kernel_rfl) (by kernel_rfl) (by kernel_rfl) (fun _ _ _ h => h) (Or.inl ⟨by rfl, fun V h => by go_simp⟩) hHeld ?_
          try simp only [Act.put, List.getElem_toArray, List.getElem_cons_succ, List.getElem_cons_zero, List.setIfInBounds_toArray, List.set_cons_zero, List.set_cons_succ]
          refine wpAnyH_take (i := 3) (v := .slice (some ⟨g, 0, none⟩) n cap) rfl (by kernel_rfl) (by kernel_rfl) (by kernel_rfl) (fun _ _ _ h => h) (Or.inl ⟨by rfl, fun V h => by have h1 := h.1.cells.2.2.2.2.2.1; go_simp⟩) hHeld ?_
          try simp only [Act.put, List.getElem_toArray, List.getElem_cons_succ, List.getElem_cons_zero, List.setIfInBounds_toArray, List.set_cons_zero, List.set_cons_succ]
          refine wpAnyH_take (i := 4) (v := .int .i64 ((kk : Nat) : Int)) rfl (by kernel_rfl) (by kernel_rfl) (by kernel_rfl) (fun _ _ _ h => h) (yieldsIf_move (by rfl) _ rfl _ rfl) hHeld ?_
          try simp only [Act.put, List.getElem_toArray, List.getElem_cons_succ, List.getElem_cons_zero, List.setIfInBounds_toArray, List.set_cons_zero, List.set_cons_succ]
          refine wpAnyH_take (i := 5) (v := .agg (cellsT X)) rfl (by kernel_rfl) (by kernel_rfl) (by kernel_rfl) (fun _ _ _ h => h) (yieldsIf_run (by rfl) 78 _ rfl ⟨b5, 0, none⟩ rfl _ (fun V h => loadAt_row h.2 rfl rfl infoSP)) hHeld ?_
          try simp only [Act.put, List.getElem_toArray, List.getElem_cons_succ, List.getElem_cons_zero, List.setIfInBounds_toArray, List.set_cons_zero, List.set_cons_succ]
          refine wpAnyH_take (i := 6) (v := .pointer (some ⟨g, kk * 61, none⟩)) rfl (by kernel_rfl) (by kernel_rfl) (by kernel_rfl) (fun _ _ _ h => h) (Or.inl ⟨by rfl, fun V h => by go_simp⟩) hHeld ?_
          try simp only [Act.put, List.getElem_toArray, List.getElem_cons_succ, List.getElem_cons_zero, List.setIfInBounds_toArray, List.set_cons_zero, List.set_cons_succ]
          refine wpAnyH_ready (rs := [7]) (by kernel_rfl) (by simp) ?_
          refine AllReadyH.cons rfl (fun K hK => ?_) AllReadyH.nil
          rw [if_pos (by kernel_rfl)]
          have RE := Lib.hid ((HS.out.row.next SB.out).next SE.out)
          have hth := RE.out.at61 (k := kk) (by rw [HS.out.len]; exact hlt)
          refine wp_store_mid 78 _ _ rfl g (kk * 61) (cellsT X) rfl rfl hth infoSP (cellsT_one X) ?_
          clear hth
          have RF := Lib.hid (RE.out.set (by rw [HS.out.len]; exact hlt) X)
          have KF := Lib.hid (kp_setCells (cellsT X).toList (kk * 61) zE (Kp.refl' g zE))
          generalize hwF : World.setCells zE g (kk * 61) (cellsT X).toList = wF at *
          have HNF := Lib.hid (HNE.out.kp KF.out (fun e => hne2 e.symm))
          have KPFX := Lib.hid (KPE.out.same (KF.out.block b5 KPE.out.lt (by have := L5.out; have := HS.out.row.lt; omega)))
          have KBF := Lib.hid (BBlk.same (KBB.out.next SE.out) (KF.out.block b6 (KBB.out.next SE.out).lt (by have := L6.out; have := HS.out.row.lt; omega)))
          have OWF := Lib.hid (own_kp (own_below (own_below HS.out.own SB.out) SE.out) KF.out hgl)
          have KPF := Lib.hid ((Kp.of (g := g) (bw_trans SB.out SE.out)).trans' KF.out)
          clear hwF
          refine hK.out _ _ ⟨HNF.out, KPFX.out⟩ (fun hHeld => ?_)
          clear hK
          try simp only [Act.put, List.getElem_toArray, List.getElem_cons_succ, List.getElem_cons_zero, List.setIfInBounds_toArray, List.set_cons_zero, List.set_cons_succ]
          refine wpAnyH_done (by kernel_rfl) ?_ _
          clear hHeld KPFX KPE HNE KPB KBB KPA KBA SA RE HR6 HN6 SE BE SB
          cases ok with
          | false =>
            have e1 := Lib.hid (HS.out.no rfl)
            have OW2 := Lib.hid (show wF.ownsRow base 66 11 _ (outsI t (x.l.take (kk + 1))).length (outRow (outsI t (x.l.take (kk + 1)))) from e1.out ▸ OWF.out)
            have RW2 := Lib.hid (show WRow wF g (mixP t x.l (kk + 1)) from HS.out.set ▸ RF.out)
            have KW2 := Lib.hid (HS.out.kp.trans' KPF.out)
            clear RF OWF KPF KBF HNF HST HSB HSR HS hws HB1 KF L5 L6 N56
            go_wp2_with fail
            go_roundg (n - kk - 1)
            case measure => omega
            case rel => exact ⟨kk + 1, by omega, by go_num, OW2.out, RW2.out, KW2.out⟩
          | true =>
            have OC := Lib.hid (out_one (kk, Mc))
            have hc0 := Lib.hid (HS.out.yes rfl).2.1
            have hL : L.length ≤ 16 := by rw [hc0.out]; exact hc16
            have hwb : base ≤ wF.heap.size := Nat.le_trans hws KPF.out.size
            have hol := own_len HS.out.own
            clear KF HNF HST HSB HSR HB1 L5 L6 N56
            go_wp2_with (first
              | (with_reducible refine wpList_bq rfl _ rfl b6 rfl Mc KBF.out ?_)
              | (with_reducible refine wpList_built rfl 66 _ rfl (cellsO (kk, Mc)) (by kernel_rfl) ?_)
              | (with_reducible refine wpList_out1 rfl _ rfl (kk, Mc) rfl ?_)
              | (at_builtin; refine wpList_append_lies _ (by rfl) _ _ _ (by rfl) base 66 i0 (.agg (cellsO (0, zeroM))) 11 88 Tryz.underlying60 hi hz0 hz1 hz2 (by rfl) (by decide) _ L.length _ (by rfl) (OWF.out.alloc (.cells (cellsO (kk, Mc)) 66)) ⟨wF.heap.size, 0, none⟩ 1 1 (cellsO (kk, Mc)).toList (by rfl) (by rfl) (World.news_of_block (heap_alloc_new wF _)) OC.out (by decide) (by unfold maxLen; omega) (by omega) (by simp; omega) _ rfl ?_; intro g1 cap1 y1 hown1 hgrow hat hlt1; have HOY := Lib.hid hown1; have GS := Lib.hid (fun i (hi : i < base) => grown_same hgrow (fun x hx => (OWF.out.lt x hx).1) hi hwb); have GR := Lib.hid (grown_kp (HS.out.kp.trans' KPF.out) HBA.out hwb hgrow (fun x hx => (OWF.out.lt x hx).1)); have GZ := Lib.hid (show g < y1.heap.size by have := hgrow.size; simp at this; omega); clear hgrow hat hlt1))
            go_roundg 0
            case measure => exact (HS.out.yes rfl).2.2.2.2
            case rel => exact sni_next HS.out hlt HOY.out (RF.out.same (GS.out g hgl) GZ.out) GR.out
        refine AllReadyH.cons rfl (fun K hK => ?_) AllReadyH.nil
        go_simp
        obtain ⟨z11, hW11⟩ : ∃ z, World.alloc z0 (.cells (cellsB zeroM) 49) = z := ⟨_, rfl⟩
        refine Eq.mp (congrArg (K _) hW11.symm) ?_
        generalize hb11 : Array.size (World.heap z0) = b6
        have A11 := Lib.hid (al_s S0.out hW11 hb11)
        have S11 := Lib.hid A11.out.below
        have L6 := Lib.hid A11.out.ge
        have Q11 := Lib.hid (show BBlk 49 z11 b6 zeroM from A11.out.new)
        clear hW11 hb11 hHeld
        refine hK.out _ _ S11.out (fun hHeld => ?_)
        clear hK
        try simp only [Act.put, List.getElem_toArray, List.getElem_cons_succ, List.getElem_cons_zero, List.setIfInBounds_toArray, List.set_cons_zero, List.set_cons_succ]
        refine wpAnyH_ready (rs := [11, 16]) (by kernel_rfl) (by simp) ?_
        refine AllReadyH.cons rfl (fun K hK => ?_) ?_
        · go_simp
          refine (CS.out pc X Mc ok _ (HST.out.next S11.out) HS.out.send HS.out.inv).mono ?_
          rintro e z12 ⟨rfl, hz⟩
          have S12 := Lib.hid (bw_trans S11.out hz)
          have Q12 := Lib.hid (BBlk.next Q11.out hz)
          clear hz hHeld
          go_simp
          refine hK.out _ _ S12.out (fun hHeld => ?_)
          clear hK
          try simp only [Act.put, List.getElem_toArray, List.getElem_cons_succ, List.getElem_cons_zero, List.setIfInBounds_toArray, List.set_cons_zero, List.set_cons_succ]
          refine wpAnyH_take (i := 12) (v := .tuple #[.agg (cellsT X), Mc.val, .bool ok]) rfl (by kernel_rfl) (by kernel_rfl) (by kernel_rfl) (fun _ _ _ h => h) (Or.inl ⟨by rfl, fun V h => by go_simp⟩) hHeld ?_
          try simp only [Act.put, List.getElem_toArray, List.getElem_cons_succ, List.getElem_cons_zero, List.setIfInBounds_toArray, List.set_cons_zero, List.set_cons_succ]
          refine wpAnyH_take (i := 13) (v := .agg (cellsT X)) rfl (by kernel_rfl) (by kernel_rfl) (by kernel_rfl) (fun _ _ _ h => h) (Or.inl ⟨by rfl, fun V h => by go_simp⟩) hHeld ?_
          try simp only [Act.put, List.getElem_toArray, List.getElem_cons_succ, List.getElem_cons_zero, List.setIfInBounds_toArray, List.set_cons_zero, List.set_cons_succ]
          refine wpAnyH_take (i := 14) (v := Mc.val) rfl (by kernel_rfl) (by kernel_rfl) (by kernel_rfl) (fun _ _ _ h => h) (Or.inl ⟨by rfl, fun V h => by go_simp⟩) hHeld ?_
          try simp only [Act.put, List.getElem_toArray, List.getElem_cons_succ, List.getElem_cons_zero, List.setIfInBounds_toArray, List.set_cons_zero, List.set_cons_succ]
          refine wpAnyH_take (i := 15) (v := .bool ok) rfl (by kernel_rfl) (by kernel_rfl) (by kernel_rfl) (fun _ _ _ h => h) (Or.inl ⟨by rfl, fun V h => by go_simp⟩) hHeld ?_
          try simp only [Act.put, List.getElem_toArray, List.getElem_cons_succ, List.getElem_cons_zero, List.setIfInBounds_toArray, List.set_cons_zero, List.set_cons_succ]
          refine wpAnyH_ready (rs := [16]) (by kernel_rfl) (by simp) ?_
          refine AllReadyH.cons rfl (fun K hK => ?_) AllReadyH.nil
          go_simp
          obtain ⟨z13, hW13⟩ : ∃ z, World.alloc z12 (.cells (cellsT zeroP) 78) = z := ⟨_, rfl⟩
          refine Eq.mp (congrArg (K _) hW13.symm) ?_
          generalize hb13 : Array.size (World.heap z12) = b5
          have A13 := Lib.hid (al_s S12.out hW13 hb13)
          have S13 := Lib.hid A13.out.below
          have L5 := Lib.hid A13.out.ge
          have P13 := Lib.hid (show PtBlk 78 z13 b5 zeroP from A13.out.new)
          have Q13 := Lib.hid (BBlk.next Q12.out A13.out.next)
          have N56 := Lib.hid (show b5 ≠ b6 by have a := Q12.out.lt; have b := A13.out.eq; omega)
          clear hW13 hb13 hHeld
          refine hK.out _ _ S13.out (fun hHeld => ?_)
          clear hK
          try simp only [Act.put, List.getElem_toArray, List.getElem_cons_succ, List.getElem_cons_zero, List.setIfInBounds_toArray, List.set_cons_zero, List.set_cons_succ]
          refine wpAnyH_ready (rs := [18]) (by kernel_rfl) (by simp) ?_
          refine AllReadyH.cons rfl (fun K hK => ?_) AllReadyH.nil
          rw [if_pos (by kernel_rfl)]
          refine wp_store_row 78 _ _ rfl b5 (cellsT X) rfl rfl 78 _ P13.out infoSP rfl (cellsT_one X) ?_
          have SA := Lib.hid (below_row S13.out L5.out (cellsT X))
          have KPA := Lib.hid (PtBlk.row P13.out X)
          have KBA := Lib.hid (bp_row_other Q13.out (cellsT X) N56.out.symm)
          refine hK.out _ _ SA.out (fun hHeld => ?_)
          clear hK
          try simp only [Act.put, List.getElem_toArray, List.getElem_cons_succ, List.getElem_cons_zero, List.setIfInBounds_toArray, List.set_cons_zero, List.set_cons_succ]
          refine wpAnyH_ready (rs := [19]) (by kernel_rfl) (by simp) ?_
          refine AllReadyH.cons rfl (fun K hK => ?_) AllReadyH.nil
          rw [if_pos (by kernel_rfl)]
          refine wp_store_row 49 _ _ rfl b6 (cellsB Mc) rfl rfl 49 _ KBA.out infoSB rfl (cellsB_one Mc) ?_
          have SB := Lib.hid (below_row SA.out L6.out (cellsB Mc))
          have KPB := Lib.hid (pt_row_other KPA.out (cellsB Mc) N56.out)
          have KBB := Lib.hid (BBlk.row KBA.out Mc)
          refine hK.out _ _ SB.out (fun hHeld => ?_)
          clear hK
          try simp only [Act.put, List.getElem_toArray, List.getElem_cons_succ, List.getElem_cons_zero, List.setIfInBounds_toArray, List.set_cons_zero, List.set_cons_succ]
          refine wpAnyH_take (i := 20) (v := .bool ok) rfl (by kernel_rfl) (by kernel_rfl) (by kernel_rfl) (fun _ _ _ h => h) (Or.inl ⟨by rfl, fun V h => by go_simp⟩) hHeld ?_
          try simp only [Act.put, List.getElem_toArray, List.getElem_cons_succ, List.getElem_cons_zero, List.setIfInBounds_toArray, List.set_cons_zero, List.set_cons_succ]
          refine wpAnyH_done (by kernel_rfl) ?_ _
          clear hHeld
          generalize hwE : World.setRow (World.setRow z13 b5 (cellsT X)) b6 (cellsB Mc) = wE at *
          clear hwE
          go_upto_region 6 with (fail)
          have HN6 := Lib.hid (HSB.out.next SB.out)
          have HR6 := Lib.hid (range_next HSR.out HS.out.row.lt SB.out)
          have BE := Lib.hid (Below.refl wE.heap.size wE)
          refine wp_region_held_drew (S := fun V => XBlk V xb i t (some ⟨g, 0, none⟩) n cap mb ((x.r : Nat) : Int) ∧ PtBlk 78 V b5 X) (by kernel_rfl) ⟨HN6.out.drew, KPB.out.next BE.out.drew⟩ (fun hHeld => ?_)
          generalize hz6 : World.drew wE = zE at hHeld ⊢
          have SE := Lib.hid (show Below wE.heap.size wE zE from hz6 ▸ BE.out.drew)
          have HNE := Lib.hid (HN6.out.next SE.out)
          have KPE := Lib.hid (KPB.out.next SE.out)
          clear hz6
          try simp only [Act.put]
          refine wpAnyH_take (i := 0) (v := .pointer (some ⟨xb, 0, none⟩)) rfl (by kernel_rfl) (by kernel_rfl) (by kernel_rfl) (fun _ _ _ h => h) (yieldsIf_move (by rfl) _ rfl _ rfl) hHeld ?_
          try simp only [Act.put, List.getElem_toArray, List.getElem_cons_succ, List.getElem_cons_zero, List.setIfInBounds_toArray, List.set_cons_zero, List.set_cons_succ]
          refine wpAnyH_take (i := 1) (v := .pointer (some ⟨xb, 0, none⟩)) rfl (by kernel_rfl) (by kernel_rfl) (by kernel_rfl) (fun _ _ _ h => h) (Or.inl ⟨by rfl, fun V h => by go_simp⟩) hHeld ?_
          try simp only [Act.put, List.getElem_toArray, List.getElem_cons_succ, List.getElem_cons_zero, List.setIfInBounds_toArray, List.set_cons_zero, List.set_cons_succ]
          refine wpAnyH_take (i := 2) (v := .pointer (some ⟨xb, 5, none⟩)) rfl (by kernel_rfl) (by kernel_rfl) (by kernel_rfl) (fun _ _ _ h => h) (Or.inl ⟨by rfl, fun V h => by go_simp⟩) hHeld ?_
          try simp only [Act.put, List.getElem_toArray, List.getElem_cons_succ, List.getElem_cons_zero, List.setIfInBounds_toArray, List.set_cons_zero, List.set_cons_succ]
          refine wpAnyH_take (i := 3) (v := .slice (some ⟨g, 0, none⟩) n cap) rfl (by kernel_rfl) (by kernel_rfl) (by kernel_rfl) (fun _ _ _ h => h) (Or.inl ⟨by rfl, fun V h => by have h1 := h.1.cells.2.2.2.2.2.1; go_simp⟩) hHeld ?_
          try simp only [Act.put, List.getElem_toArray, List.getElem_cons_succ, List.getElem_cons_zero, List.setIfInBounds_toArray, List.set_cons_zero, List.set_cons_succ]
          refine wpAnyH_take (i := 4) (v := .int .i64 ((kk : Nat) : Int)) rfl (by kernel_rfl) (by kernel_rfl) (by kernel_rfl) (fun _ _ _ h => h) (yieldsIf_move (by rfl) _ rfl _ rfl) hHeld ?_
          try simp only [Act.put, List.getElem_toArray, List.getElem_cons_succ, List.getElem_cons_zero, List.setIfInBounds_toArray, List.set_cons_zero, List.set_cons_succ]
          refine wpAnyH_take (i := 5) (v := .agg (cellsT X)) rfl (by kernel_rfl) (by kernel_rfl) (by kernel_rfl) (fun _ _ _ h => h) (yieldsIf_run (by rfl) 78 _ rfl ⟨b5, 0, none⟩ rfl _ (fun V h => loadAt_row h.2 rfl rfl infoSP)) hHeld ?_
          try simp only [Act.put, List.getElem_toArray, List.getElem_cons_succ, List.getElem_cons_zero, List.setIfInBounds_toArray, List.set_cons_zero, List.set_cons_succ]
          refine wpAnyH_take (i := 6) (v := .pointer (some ⟨g, kk * 61, none⟩)) rfl (by kernel_rfl) (by kernel_rfl) (by kernel_rfl) (fun _ _ _ h => h) (Or.inl ⟨by rfl, fun V h => by go_simp⟩) hHeld ?_
          try simp only [Act.put, List.getElem_toArray, List.getElem_cons_succ, List.getElem_cons_zero, List.setIfInBounds_toArray, List.set_cons_zero, List.set_cons_succ]
          refine wpAnyH_ready (rs := [7]) (by kernel_rfl) (by simp) ?_
          refine AllReadyH.cons rfl (fun K hK => ?_) AllReadyH.nil
          rw [if_pos (by kernel_rfl)]
          have RE := Lib.hid ((HS.out.row.next SB.out).next SE.out)
          have hth := RE.out.at61 (k := kk) (by rw [HS.out.len]; exact hlt)
          refine wp_store_mid 78 _ _ rfl g (kk * 61) (cellsT X) rfl rfl hth infoSP (cellsT_one X) ?_
          clear hth
          have RF := Lib.hid (RE.out.set (by rw [HS.out.len]; exact hlt) X)
          have KF := Lib.hid (kp_setCells (cellsT X).toList (kk * 61) zE (Kp.refl' g zE))
          generalize hwF : World.setCells zE g (kk * 61) (cellsT X).toList = wF at *
          have HNF := Lib.hid (HNE.out.kp KF.out (fun e => hne2 e.symm))
          have KPFX := Lib.hid (KPE.out.same (KF.out.block b5 KPE.out.lt (by have := L5.out; have := HS.out.row.lt; omega)))
          have KBF := Lib.hid (BBlk.same (KBB.out.next SE.out) (KF.out.block b6 (KBB.out.next SE.out).lt (by have := L6.out; have := HS.out.row.lt; omega)))
          have OWF := Lib.hid (own_kp (own_below (own_below HS.out.own SB.out) SE.out) KF.out hgl)
          have KPF := Lib.hid ((Kp.of (g := g) (bw_trans SB.out SE.out)).trans' KF.out)
          clear hwF
          refine hK.out _ _ ⟨HNF.out, KPFX.out⟩ (fun hHeld => ?_)
          clear hK
          try simp only [Act.put, List.getElem_toArray, List.getElem_cons_succ, List.getElem_cons_zero, List.setIfInBounds_toArray, List.set_cons_zero, List.set_cons_succ]
          refine wpAnyH_done (by kernel_rfl) ?_ _
          clear hHeld KPFX KPE HNE KPB KBB KPA KBA SA RE HR6 HN6 SE BE SB
          cases ok with
          | false =>
            have e1 := Lib.hid (HS.out.no rfl)
            have OW2 := Lib.hid (show wF.ownsRow base 66 11 _ (outsI t (x.l.take (kk + 1))).length (outRow (outsI t (x.l.take (kk + 1)))) from e1.out ▸ OWF.out)
            have RW2 := Lib.hid (show WRow wF g (mixP t x.l (kk + 1)) from HS.out.set ▸ RF.out)
            have KW2 := Lib.hid (HS.out.kp.trans' KPF.out)
            clear RF OWF KPF KBF HNF HST HSB HSR HS hws HB1 KF L5 L6 N56
            go_wp2_with fail
            go_roundg (n - kk - 1)
            case measure => omega
            case rel => exact ⟨kk + 1, by omega, by go_num, OW2.out, RW2.out, KW2.out⟩
          | true =>
            have OC := Lib.hid (out_one (kk, Mc))
            have hc0 := Lib.hid (HS.out.yes rfl).2.1
            have hL : L.length ≤ 16 := by rw [hc0.out]; exact hc16
            have hwb : base ≤ wF.heap.size := Nat.le_trans hws KPF.out.size
            have hol := own_len HS.out.own
            clear KF HNF HST HSB HSR HB1 L5 L6 N56
            go_wp2_with (first
              | (with_reducible refine wpList_bq rfl _ rfl b6 rfl Mc KBF.out ?_)
              | (with_reducible refine wpList_built rfl 66 _ rfl (cellsO (kk, Mc)) (by kernel_rfl) ?_)
              | (with_reducible refine wpList_out1 rfl _ rfl (kk, Mc) rfl ?_)
              | (at_builtin; refine wpList_append_lies _ (by rfl) _ _ _ (by rfl) base 66 i0 (.agg (cellsO (0, zeroM))) 11 88 Tryz.underlying60 hi hz0 hz1 hz2 (by rfl) (by decide) _ L.length _ (by rfl) (OWF.out.alloc (.cells (cellsO (kk, Mc)) 66)) ⟨wF.heap.size, 0, none⟩ 1 1 (cellsO (kk, Mc)).toList (by rfl) (by rfl) (World.news_of_block (heap_alloc_new wF _)) OC.out (by decide) (by unfold maxLen; omega) (by omega) (by simp; omega) _ rfl ?_; intro g1 cap1 y1 hown1 hgrow hat hlt1; have HOY := Lib.hid hown1; have GS := Lib.hid (fun i (hi : i < base) => grown_same hgrow (fun x hx => (OWF.out.lt x hx).1) hi hwb); have GR := Lib.hid (grown_kp (HS.out.kp.trans' KPF.out) HBA.out hwb hgrow (fun x hx => (OWF.out.lt x hx).1)); have GZ := Lib.hid (show g < y1.heap.size by have := hgrow.size; simp at this; omega); clear hgrow hat hlt1))
            go_roundg 0
            case measure => exact (HS.out.yes rfl).2.2.2.2
            case rel => exact sni_next HS.out hlt HOY.out (RF.out.same (GS.out g hgl) GZ.out) GR.out
        refine AllReadyH.cons rfl (fun K hK => ?_) AllReadyH.nil
        go_simp
        obtain ⟨z14, hW14⟩ : ∃ z, World.alloc z11 (.cells (cellsT zeroP) 78) = z := ⟨_, rfl⟩
        refine Eq.mp (congrArg (K _) hW14.symm) ?_
        generalize hb14 : Array.size (World.heap z11) = b5
        have A14 := Lib.hid (al_s S11.out hW14 hb14)
        have S14 := Lib.hid A14.out.below
        have L5 := Lib.hid A14.out.ge
        have P14 := Lib.hid (show PtBlk 78 z14 b5 zeroP from A14.out.new)
        have Q14 := Lib.hid (BBlk.next Q11.out A14.out.next)
        have N56 := Lib.hid (show b5 ≠ b6 by have a := Q11.out.lt; have b := A14.out.eq; omega)
        clear hW14 hb14 hHeld
        refine hK.out _ _ S14.out (fun hHeld => ?_)
        clear hK
        try simp only [Act.put, List.getElem_toArray, List.getElem_cons_succ, List.getElem_cons_zero, List.setIfInBounds_toArray, List.set_cons_zero, List.set_cons_succ]
        refine wpAnyH_ready (rs := [11]) (by kernel_rfl) (by simp) ?_
        refine AllReadyH.cons rfl (fun K hK => ?_) AllReadyH.nil
        go_simp
        refine (CS.out pc X Mc ok _ (HST.out.next S14.out) HS.out.send HS.out.inv).mono ?_
        rintro e z15 ⟨rfl, hz⟩
        have S15 := Lib.hid (bw_trans S14.out hz)
        have P15 := Lib.hid (PtBlk.next P14.out hz)
        have Q15 := Lib.hid (BBlk.next Q14.out hz)
        clear hz hHeld
        go_simp
        refine hK.out _ _ S15.out (fun hHeld => ?_)
        clear hK
        try simp only [Act.put, List.getElem_toArray, List.getElem_cons_succ, List.getElem_cons_zero, List.setIfInBounds_toArray, List.set_cons_zero, List.set_cons_succ]
        refine wpAnyH_take (i := 12) (v := .tuple #[.agg (cellsT X), Mc.val, .bool ok]) rfl (by kernel_rfl) (by kernel_rfl) (by kernel_rfl) (fun _ _ _ h => h) (Or.inl ⟨by rfl, fun V h => by go_simp⟩) hHeld ?_
        try simp only [Act.put, List.getElem_toArray, List.getElem_cons_succ, List.getElem_cons_zero, List.setIfInBounds_toArray, List.set_cons_zero, List.set_cons_succ]
        refine wpAnyH_take (i := 13) (v := .agg (cellsT X)) rfl (by kernel_rfl) (by kernel_rfl) (by kernel_rfl) (fun _ _ _ h => h) (Or.inl ⟨by rfl, fun V h => by go_simp⟩) hHeld ?_
        try simp only [Act.put, List.getElem_toArray, List.getElem_cons_succ, List.getElem_cons_zero, List.setIfInBounds_toArray, List.set_cons_zero, List.set_cons_succ]
        refine wpAnyH_take (i := 14) (v := Mc.val) rfl (by kernel_rfl) (by kernel_rfl) (by kernel_rfl) (fun _ _ _ h => h) (Or.inl ⟨by rfl, fun V h => by go_simp⟩) hHeld ?_
        try simp only [Act.put, List.getElem_toArray, List.getElem_cons_succ, List.getElem_cons_zero, List.setIfInBounds_toArray, List.set_cons_zero, List.set_cons_succ]
        refine wpAnyH_take (i := 15) (v := .bool ok) rfl (by kernel_rfl) (by kernel_rfl) (by kernel_rfl) (fun _ _ _ h => h) (Or.inl ⟨by rfl, fun V h => by go_simp⟩) hHeld ?_
        try simp only [Act.put, List.getElem_toArray, List.getElem_cons_succ, List.getElem_cons_zero, List.setIfInBounds_toArray, List.set_cons_zero, List.set_cons_succ]
        refine wpAnyH_ready (rs := [18]) (by kernel_rfl) (by simp) ?_
        refine AllReadyH.cons rfl (fun K hK => ?_) AllReadyH.nil
        rw [if_pos (by kernel_rfl)]
        refine wp_store_row 78 _ _ rfl b5 (cellsT X) rfl rfl 78 _ P15.out infoSP rfl (cellsT_one X) ?_
        have SA := Lib.hid (below_row S15.out L5.out (cellsT X))
        have KPA := Lib.hid (PtBlk.row P15.out X)
        have KBA := Lib.hid (bp_row_other Q15.out (cellsT X) N56.out.symm)
        refine hK.out _ _ SA.out (fun hHeld => ?_)
        clear hK
        try simp only [Act.put, List.getElem_toArray, List.getElem_cons_succ, List.getElem_cons_zero, List.setIfInBounds_toArray, List.set_cons_zero, List.set_cons_succ]
        refine wpAnyH_ready (rs := [19]) (by kernel_rfl) (by simp) ?_
        refine AllReadyH.cons rfl (fun K hK => ?_) AllReadyH.nil
        rw [if_pos (by kernel_rfl)]
        refine wp_store_row 49 _ _ rfl b6 (cellsB Mc) rfl rfl 49 _ KBA.out infoSB rfl (cellsB_one Mc) ?_
        have SB := Lib.hid (below_row SA.out L6.out (cellsB Mc))
        have KPB := Lib.hid (pt_row_other KPA.out (cellsB Mc) N56.out)
        have KBB := Lib.hid (BBlk.row KBA.out Mc)
        refine hK.out _ _ SB.out (fun hHeld => ?_)
        clear hK
        try simp only [Act.put, List.getElem_toArray, List.getElem_cons_succ, List.getElem_cons_zero, List.setIfInBounds_toArray, List.set_cons_zero, List.set_cons_succ]
        refine wpAnyH_take (i := 20) (v := .bool ok) rfl (by kernel_rfl) (by kernel_rfl) (by kernel_rfl) (fun _ _ _ h => h) (Or.inl ⟨by rfl, fun V h => by go_simp⟩) hHeld ?_
        try simp only [Act.put, List.getElem_toArray, List.getElem_cons_succ, List.getElem_cons_zero, List.setIfInBounds_toArray, List.set_cons_zero, List.set_cons_succ]
        refine wpAnyH_done (by kernel_rfl) ?_ _
        clear hHeld
        generalize hwE : World.setRow (World.setRow z15 b5 (cellsT X)) b6 (cellsB Mc) = wE at *
        clear hwE
        go_upto_region 6 with (fail)
        have HN6 := Lib.hid (HSB.out.next SB.out)
        have HR6 := Lib.hid (range_next HSR.out HS.out.row.lt SB.out)
        have BE := Lib.hid (Below.refl wE.heap.size wE)
        refine wp_region_held_drew (S := fun V => XBlk V xb i t (some ⟨g, 0, none⟩) n cap mb ((x.r : Nat) : Int) ∧ PtBlk 78 V b5 X) (by kernel_rfl) ⟨HN6.out.drew, KPB.out.next BE.out.drew⟩ (fun hHeld => ?_)
        generalize hz6 : World.drew wE = zE at hHeld ⊢
        have SE := Lib.hid (show Below wE.heap.size wE zE from hz6 ▸ BE.out.drew)
        have HNE := Lib.hid (HN6.out.next SE.out)
        have KPE := Lib.hid (KPB.out.next SE.out)
        clear hz6
        try simp only [Act.put]
        refine wpAnyH_take (i := 0) (v := .pointer (some ⟨xb, 0, none⟩)) rfl (by kernel_rfl) (by kernel_rfl) (by kernel_rfl) (fun _ _ _ h => h) (yieldsIf_move (by rfl) _ rfl _ rfl) hHeld ?_
        try simp only [Act.put, List.getElem_toArray, List.getElem_cons_succ, List.getElem_cons_zero, List.setIfInBounds_toArray, List.set_cons_zero, List.set_cons_succ]
        refine wpAnyH_take (i := 1) (v := .pointer (some ⟨xb, 0, none⟩)) rfl (by kernel_rfl) (by kernel_rfl) (by kernel_rfl) (fun _ _ _ h => h) (Or.inl ⟨by rfl, fun V h => by go_simp⟩) hHeld ?_
        try simp only [Act.put, List.getElem_toArray, List.getElem_cons_succ, List.getElem_cons_zero, List.setIfInBounds_toArray, List.set_cons_zero, List.set_cons_succ]
        refine wpAnyH_take (i := 2) (v := .pointer (some ⟨xb, 5, none⟩)) rfl (by kernel_rfl) (by kernel_rfl) (by kernel_rfl) (fun _ _ _ h => h) (Or.inl ⟨by rfl, fun V h => by go_simp⟩) hHeld ?_
        try simp only [Act.put, List.getElem_toArray, List.getElem_cons_succ, List.getElem_cons_zero, List.setIfInBounds_toArray, List.set_cons_zero, List.set_cons_succ]
        refine wpAnyH_take (i := 3) (v := .slice (some ⟨g, 0, none⟩) n cap) rfl (by kernel_rfl) (by kernel_rfl) (by kernel_rfl) (fun _ _ _ h => h) (Or.inl ⟨by rfl, fun V h => by have h1 := h.1.cells.2.2.2.2.2.1; go_simp⟩) hHeld ?_
        try simp only [Act.put, List.getElem_toArray, List.getElem_cons_succ, List.getElem_cons_zero, List.setIfInBounds_toArray, List.set_cons_zero, List.set_cons_succ]
        refine wpAnyH_take (i := 4) (v := .int .i64 ((kk : Nat) : Int)) rfl (by kernel_rfl) (by kernel_rfl) (by kernel_rfl) (fun _ _ _ h => h) (yieldsIf_move (by rfl) _ rfl _ rfl) hHeld ?_
        try simp only [Act.put, List.getElem_toArray, List.getElem_cons_succ, List.getElem_cons_zero, List.setIfInBounds_toArray, List.set_cons_zero, List.set_cons_succ]
        refine wpAnyH_take (i := 5) (v := .agg (cellsT X)) rfl (by kernel_rfl) (by kernel_rfl) (by kernel_rfl) (fun _ _ _ h => h) (yieldsIf_run (by rfl) 78 _ rfl ⟨b5, 0, none⟩ rfl _ (fun V h => loadAt_row h.2 rfl rfl infoSP)) hHeld ?_
        try simp only [Act.put, List.getElem_toArray, List.getElem_cons_succ, List.getElem_cons_zero, List.setIfInBounds_toArray, List.set_cons_zero, List.set_cons_succ]
        refine wpAnyH_take (i := 6) (v := .pointer (some ⟨g, kk * 61, none⟩)) rfl (by kernel_rfl) (by kernel_rfl) (by kernel_rfl) (fun _ _ _ h => h) (Or.inl ⟨by rfl, fun V h => by go_simp⟩) hHeld ?_
        try simp only [Act.put, List.getElem_toArray, List.getElem_cons_succ, List.getElem_cons_zero, List.setIfInBounds_toArray, List.set_cons_zero, List.set_cons_succ]
        refine wpAnyH_ready (rs := [7]) (by kernel_rfl) (by simp) ?_
        refine AllReadyH.cons rfl (fun K hK => ?_) AllReadyH.nil
        rw [if_pos (by kernel_rfl)]
        have RE := Lib.hid ((HS.out.row.next SB.out).next SE.out)
        have hth := RE.out.at61 (k := kk) (by rw [HS.out.len]; exact hlt)
        refine wp_store_mid 78 _ _ rfl g (kk * 61) (cellsT X) rfl rfl hth infoSP (cellsT_one X) ?_
        clear hth
        have RF := Lib.hid (RE.out.set (by rw [HS.out.len]; exact hlt) X)
        have KF := Lib.hid (kp_setCells (cellsT X).toList (kk * 61) zE (Kp.refl' g zE))
        generalize hwF : World.setCells zE g (kk * 61) (cellsT X).toList = wF at *
        have HNF := Lib.hid (HNE.out.kp KF.out (fun e => hne2 e.symm))
        have KPFX := Lib.hid (KPE.out.same (KF.out.block b5 KPE.out.lt (by have := L5.out; have := HS.out.row.lt; omega)))
        have KBF := Lib.hid (BBlk.same (KBB.out.next SE.out) (KF.out.block b6 (KBB.out.next SE.out).lt (by have := L6.out; have := HS.out.row.lt; omega)))
        have OWF := Lib.hid (own_kp (own_below (own_below HS.out.own SB.out) SE.out) KF.out hgl)
        have KPF := Lib.hid ((Kp.of (g := g) (bw_trans SB.out SE.out)).trans' KF.out)
        clear hwF
        refine hK.out _ _ ⟨HNF.out, KPFX.out⟩ (fun hHeld => ?_)
        clear hK
        try simp only [Act.put, List.getElem_toArray, List.getElem_cons_succ, List.getElem_cons_zero, List.setIfInBounds_toArray, List.set_cons_zero, List.set_cons_succ]
        refine wpAnyH_done (by kernel_rfl) ?_ _
        clear hHeld KPFX KPE HNE KPB KBB KPA KBA SA RE HR6 HN6 SE BE SB
        cases ok with
        | false =>
          have e1 := Lib.hid (HS.out.no rfl)
          have OW2 := Lib.hid (show wF.ownsRow base 66 11 _ (outsI t (x.l.take (kk + 1))).length (outRow (outsI t (x.l.take (kk + 1)))) from e1.out ▸ OWF.out)
          have RW2 := Lib.hid (show WRow wF g (mixP t x.l (kk + 1)) from HS.out.set ▸ RF.out)
          have KW2 := Lib.hid (HS.out.kp.trans' KPF.out)
          clear RF OWF KPF KBF HNF HST HSB HSR HS hws HB1 KF L5 L6 N56
          go_wp2_with fail
          go_roundg (n - kk - 1)
          case measure => omega
          case rel => exact ⟨kk + 1, by omega, by go_num, OW2.out, RW2.out, KW2.out⟩
        | true =>
          have OC := Lib.hid (out_one (kk, Mc))
          have hc0 := Lib.hid (HS.out.yes rfl).2.1
          have hL : L.length ≤ 16 := by rw [hc0.out]; exact hc16
          have hwb : base ≤ wF.heap.size := Nat.le_trans hws KPF.out.size
          have hol := own_len HS.out.own
          clear KF HNF HST HSB HSR HB1 L5 L6 N56
          go_wp2_with (first
            | (with_reducible refine wpList_bq rfl _ rfl b6 rfl Mc KBF.out ?_)
            | (with_reducible refine wpList_built rfl 66 _ rfl (cellsO (kk, Mc)) (by kernel_rfl) ?_)
            | (with_reducible refine wpList_out1 rfl _ rfl (kk, Mc) rfl ?_)
            | (at_builtin; refine wpList_append_lies _ (by rfl) _ _ _ (by rfl) base 66 i0 (.agg (cellsO (0, zeroM))) 11 88 Tryz.underlying60 hi hz0 hz1 hz2 (by rfl) (by decide) _ L.length _ (by rfl) (OWF.out.alloc (.cells (cellsO (kk, Mc)) 66)) ⟨wF.heap.size, 0, none⟩ 1 1 (cellsO (kk, Mc)).toList (by rfl) (by rfl) (World.news_of_block (heap_alloc_new wF _)) OC.out (by decide) (by unfold maxLen; omega) (by omega) (by simp; omega) _ rfl ?_; intro g1 cap1 y1 hown1 hgrow hat hlt1; have HOY := Lib.hid hown1; have GS := Lib.hid (fun i (hi : i < base) => grown_same hgrow (fun x hx => (OWF.out.lt x hx).1) hi hwb); have GR := Lib.hid (grown_kp (HS.out.kp.trans' KPF.out) HBA.out hwb hgrow (fun x hx => (OWF.out.lt x hx).1)); have GZ := Lib.hid (show g < y1.heap.size by have := hgrow.size; simp at this; omega); clear hgrow hat hlt1))
          go_roundg 0
          case measure => exact (HS.out.yes rfl).2.2.2.2
          case rel => exact sni_next HS.out hlt HOY.out (RF.out.same (GS.out g hgl) GZ.out) GR.out
    · obtain rfl : kk = n := by omega
      have OWN := Lib.hid (show wr.ownsRow base 66 11 _ (outsI t x.l).length (outRow (outsI t x.l)) from outs_all HN.out ▸ hO)
      have CRR := Lib.hid (CR.out wr hK (mix_all (t := t) HN.out ▸ hW))
      have KPW := Lib.hid hK
      clear hO hW hK CS CR
      go_wp2_with fail
      (with_reducible refine CRR.out.mono ?_)
      rintro e w3 ⟨rfl, g', cap', hg', hx', hk'⟩
      have HX' := Lib.hid hx'
      have HK' := Lib.hid hk'
      clear hx' hk'
      go_wp2_with fail
      try rw [Exit.noGoto_ret]
      go_ret
      exact ⟨_, rfl, HBA.out ▸ own_k2 OWN.out HK'.out hxl hml, g', cap', .inr (by have := KPW.out.size; have := HBA.out; omega), HX'.out, (K3.ofg KPW.out).trans (K3.of2 HK'.out)⟩
end Go.Proofs.YtldobcfejldbiaaGreatDoor
