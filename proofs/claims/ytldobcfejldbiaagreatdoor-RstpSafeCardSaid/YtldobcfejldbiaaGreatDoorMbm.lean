/-
  Layer 14: offering and its closure, speechOf and its closure.
-/
import Derived.Test.YtldobcfejldbiaaGreatDoorMat
namespace Go.Proofs.YtldobcfejldbiaaGreatDoor
set_option linter.unusedVariables false
set_option linter.unusedSimpArgs false
open Go.RowKit Vm Rm Bm Im

abbrev cellsB (x : Bp) : Array Value := #[.int .i64 x.kind, .int .i64 x.flags, .int .u64 x.root, .int .u64 x.cost, .int .u64 x.bridge, .int .u64 x.port, .int .i64 x.age, .int .i64 x.max, .int .i64 x.hello, .int .i64 x.delay]
theorem wpList_bpst {ops : Array Oper} {rest : List Oper} {op : Oper} {a : Act} {w : World} {Q : Exit → Act → World → Prop} (hgd : op.guard = none) (x y : Operand) (ho : op.op = .store 49 x y)
    (b : Nat) (hx : a.eval x = .pointer (some ⟨b, 0, none⟩)) (m q : Bp) (hy : a.eval y = .agg (cellsB m)) (hc : BBlk 49 w b q)
    (h : wpList Tryz.prog ops Q rest (a.put op.dst undef) (w.setRow b (cellsB m))) : wpList Tryz.prog ops Q (op :: rest) a w :=
  wpList_store_row hgd 49 x y ho b (cellsB m) hx hy 49 _ hc (by kernel_rfl) rfl (by simp [cellsB, Value.oneCell']) h
/-- A time such that nothing overflows. -/
def smI (n : Int) : Bool := decide (-1099511627776 < n ∧ n < 1099511627776)
def smallB (p : Pt) : Bool := smI p.given.age && (smI p.given.max && (smI p.given.hello && smI p.given.delay))
theorem infoSB : (Tryz.prog.info? 49).map (·.size) = some 10 := by kernel_rfl
theorem cellsB_one (x : Bp) : (cellsB x).all (·.oneCell') = true := by simp [cellsB, Value.oneCell']
theorem BBlk.row {T : TypeId} {w : World} {b : Nat} {x : Bp} (h : BBlk T w b x) (y : Bp) : BBlk T (w.setRow b (cellsB y)) b y := setRow_heap w b (cellsB x) (cellsB y) T _ h
theorem BBlk.stores {T : TypeId} {w : World} {b : Nat} {p : Bp} (h : BBlk T w b p) (q : Bp) : Sem.run Tryz.prog (storeCells ⟨b, 0, none⟩ (cellsB q).toList) w = .ok () (w.setRow b (cellsB q)) := by
  have := run_storeCells_from (P := Tryz.prog) b T (cellsB q).toList 0 (cellsB p) w h (by simp [cellsB]) (fun v hv => by
    have h1 := cellsB_one q
    rw [Array.all_eq_true_iff_forall_mem] at h1
    exact h1 v (by simpa using hv))
  simpa using this
/-- What the closure's region finds wherever it looks. -/
structure OfS (W : World) (b c : Nat) (p : Pt) (k : Int) (V : World) : Prop where
  pt : PtBlk 78 V b p
  one : One 3 V c (.int .i64 k)
  roles : TRoles V
  below : Below W.heap.size W V
theorem OfS.next {W V V' : World} {b c : Nat} {p : Pt} {k : Int} (h : OfS W b c p k V) (hb : Below V.heap.size V V') : OfS W b c p k V' :=
  ⟨h.pt.next hb, h.one.next hb, h.roles.next hb, bw_trans h.below hb⟩
theorem OfS.alloc {W V : World} {b c : Nat} {p : Pt} {k : Int} (h : OfS W b c p k V) (x : Obj) : OfS W b c p k (V.alloc x) := h.next (bw_alloc (Below.refl _ V) x)
theorem OfS.drew {W V : World} {b c : Nat} {p : Pt} {k : Int} (h : OfS W b c p k V) : OfS W b c p k V.drew := ⟨h.pt, h.one, h.roles, h.below.drew⟩
theorem OfS.row {W V : World} {b c : Nat} {p : Pt} {k : Int} (h : OfS W b c p k V) {g : Nat} (cs : Array Value) (hg : W.heap.size ≤ g) (hb : b < W.heap.size) (hc : c < W.heap.size) (h0 : 0 < W.heap.size) : OfS W b c p k (V.setRow g cs) :=
  ⟨(setRow_other _ _ _ _ (by omega)).trans h.pt, (setRow_other _ _ _ _ (by omega)).trans h.one, h.roles.below (below_row (Below.refl 1 V) (by omega) _) Nat.one_pos, below_row h.below hg cs⟩
theorem TRoles.drew {w : World} (h : TRoles w) : TRoles w.drew := h
theorem tn_row {T : TypeId} {b : Nat} {X : Pt} {w w1 : World} (h : Tn T b X w w1) {g : Nat} (hg : w.heap.size ≤ g) (hb : b < w.heap.size) (cs : Array Value) : Tn T b X w (w1.setRow g cs) :=
  ⟨(setRow_other _ _ _ _ (by omega)).trans h.blk, h.os, h.tape, h.output, by show _ ≤ (w1.heap.modify _ _).size; rw [Array.size_modify]; exact h.size, fun i hi hn => (setRow_other _ _ _ _ (by omega)).trans (h.block i hi hn)⟩
theorem tn_below {T : TypeId} {b : Nat} {X : Pt} {w w1 : World} (h : PtBlk T w b X) (hb : Below w.heap.size w w1) : Tn T b X w w1 := (Tn.refl h).grow hb

set_option maxHeartbeats 1000000 in
theorem offering_w (k : Int) (w : World) : Calls Tryz.prog 139 #[.int .i64 k] w fun e w' => e = .returned (.func (.func 173) #[] #[.pointer (some ⟨w.heap.size, 0, none⟩)]) ∧ One 3 w' w.heap.size (.int .i64 k) ∧ Below w.heap.size w w' := by
  have O := Lib.hid (one_new 3 w (.int .i64 k))
  have B := Lib.hid (below_box w (.cells #[.int .i64 k] 3))
  go_enter Tryz.func139, Tryz.ntmps139
  go_wp2
  go_ret
  exact ⟨ret_val rfl, O.out, B.out⟩

set_option maxRecDepth 20000 in
set_option maxHeartbeats 1000000 in
theorem notice_w (a : Option Addr) (w : World) : Calls Tryz.prog 140 #[.pointer a] w fun e w' => e = .returned (bv 2 0 0 0 0 0 0 0 0 0) ∧ Below w.heap.size w w' := by
  have K := Lib.hid (bblk_new 49 w 2 0 0 0 0 0 0 0 0 0)
  go_enter Tryz.func140, Tryz.ntmps140
  go_wp2
  exact bodyPost_ret (v := bv 2 0 0 0 0 0 0 0 0 0) (results_cell_row rfl _ _ w.heap.size 49 (cellsB ⟨2, 0, 0, 0, 0, 0, 0, 0, 0, 0⟩) (0, 0) _ rfl K.out rfl rfl infoSB) rfl ⟨rfl, below_box w _⟩

set_option maxRecDepth 20000 in
set_option maxHeartbeats 4000000 in
theorem offers_w (b c : Nat) (k Fl A Mx He De : Int) (cfg : Bool) (p X : Pt) (w : World) (hp : PtBlk 78 w b p) (ho : One 3 w c (.int .i64 k)) (hT : TRoles w) (hc : (k == 1) = cfg)
    (hFl : Hid (flagsI p cfg = Fl)) (hA : Hid (scaledI p.given.age = A)) (hM : Hid (scaledI p.given.max = Mx)) (hH : Hid (scaledI p.given.hello = He)) (hD : Hid (scaledI p.given.delay = De))
    (h0 : 0 ≤ p.given.age ∧ 0 ≤ p.given.max ∧ 0 ≤ p.given.hello ∧ 0 ≤ p.given.delay) (hs : smallB p = true) (hX : Hid (({ p with tcAck := false } : Pt) = X)) :
    Calls Tryz.prog 173 #[.pointer (some ⟨b, 0, none⟩), .pointer (some ⟨c, 0, none⟩)] w fun e w' => e = .returned (bv k Fl p.offer.root p.offer.cost p.offer.bridge p.offer.port A Mx He De) ∧ Tn 78 b X w w' := by
  obtain ⟨W, rb, HW, HR, kr, kB⟩ : ∃ (V : World) (b : Nat), Hid (w.alloc (.cells (cellsB zeroM) 49) = V) ∧ Hid (w.heap.size = b) ∧ BBlk 49 V b zeroM ∧ Below w.heap.size w V := ⟨_, _, Lib.hid rfl, Lib.hid rfl, heap_alloc_new w _, below_box w _⟩
  have KR := Lib.hid kr
  have KB := Lib.hid kB
  have HP := Lib.hid hp
  have S0 := Lib.hid (show OfS W b c p k W from ⟨hp.next kB, ho.next kB, hT.next kB, Below.refl _ W⟩)
  have hbw : b < W.heap.size := Nat.lt_of_lt_of_le hp.lt kB.size
  have hcw : c < W.heap.size := Nat.lt_of_lt_of_le ho.lt kB.size
  have h0w : 0 < W.heap.size := Nat.lt_of_lt_of_le hT.pos kB.size
  have HbW := Lib.hid hbw
  have HcW := Lib.hid hcw
  have H0W := Lib.hid h0w
  have CF := Lib.hid (fun (w' : World) (hT' : TRoles w') => (hFl.out ▸ flags10_w p cfg w' hT' : Calls Tryz.prog 174 #[.agg (cellsT p), .bool cfg] w' fun e w'' => e = .returned (.int .i64 Fl) ∧ Below w'.heap.size w' w''))
  unfold smallB smI at hs
  simp only [Bool.and_eq_true, decide_eq_true_eq] at hs
  obtain ⟨⟨s0, s0'⟩, ⟨s1, s1'⟩, ⟨s2, s2'⟩, ⟨s3, s3'⟩⟩ := hs
  obtain ⟨g0, g1, g2, g3⟩ := h0
  have CA := Lib.hid (fun (w' : World) => (hA.out ▸ fine14_w p.given.age w' g0 s0' : Calls Tryz.prog 175 #[.int .i64 p.given.age] w' fun e w'' => e = .returned (.int .i64 A) ∧ w' = w''))
  have CM := Lib.hid (fun (w' : World) => (hM.out ▸ fine14_w p.given.max w' g1 s1' : Calls Tryz.prog 175 #[.int .i64 p.given.max] w' fun e w'' => e = .returned (.int .i64 Mx) ∧ w' = w''))
  have CH := Lib.hid (fun (w' : World) => (hH.out ▸ fine14_w p.given.hello w' g2 s2' : Calls Tryz.prog 175 #[.int .i64 p.given.hello] w' fun e w'' => e = .returned (.int .i64 He) ∧ w' = w''))
  have CD := Lib.hid (fun (w' : World) => (hD.out ▸ fine14_w p.given.delay w' g3 s3' : Calls Tryz.prog 175 #[.int .i64 p.given.delay] w' fun e w'' => e = .returned (.int .i64 De) ∧ w' = w''))
  clear hp ho hT kr kB hbw hcw h0w hFl hA hM hH hD s0 s0' s1 s1' s2 s2' s3 s3' g0 g1 g2 g3
  go_enter Tryz.func173, Tryz.ntmps173
  go_upto_region 1 with (fail)
  refine wp_to (W := W) (by exact HW.out.symm) ?_
  rw [HR.out]
  go_cut [4] (fun v wx => ∃ n, v = .pointer (some ⟨n, 0, none⟩) ∧ W.heap.size ≤ n ∧ BBlk 49 wx n ⟨k, Fl, p.offer.root, p.offer.cost, p.offer.bridge, p.offer.port, A, Mx, He, De⟩ ∧ OfS W b c p k wx)
  case first =>
    refine wp_region_held_drew (S := OfS W b c p k) (by kernel_rfl) (show OfS W b c p k W.drew from ⟨S0.out.pt, S0.out.one, S0.out.roles, S0.out.below.drew⟩) (fun hHeld => ?_)
    try simp only [Act.put]
    refine wpAnyH_take (i := 0) (v := .int .i64 k) rfl (by kernel_rfl) (by kernel_rfl) (by kernel_rfl) (fun _ _ _ h => h) (Or.inl ⟨by rfl, fun V h => by have hh := h.one.cell; go_simp⟩) hHeld ?_
    try simp only [Act.put, List.getElem_toArray, List.getElem_cons_succ, List.getElem_cons_zero, List.setIfInBounds_toArray, List.set_cons_zero, List.set_cons_succ]
    refine wpAnyH_take (i := 1) (v := .pointer (some ⟨b, 0, none⟩)) rfl (by kernel_rfl) (by kernel_rfl) (by kernel_rfl) (fun _ _ _ h => h) (Or.inl ⟨by rfl, fun V h => by go_simp⟩) hHeld ?_
    try simp only [Act.put, List.getElem_toArray, List.getElem_cons_succ, List.getElem_cons_zero, List.setIfInBounds_toArray, List.set_cons_zero, List.set_cons_succ]
    refine wpAnyH_take (i := 2) (v := .pointer (some ⟨b, 0, none⟩)) rfl (by kernel_rfl) (by kernel_rfl) (by kernel_rfl) (fun _ _ _ h => h) (Or.inl ⟨by rfl, fun V h => by go_simp⟩) hHeld ?_
    try simp only [Act.put, List.getElem_toArray, List.getElem_cons_succ, List.getElem_cons_zero, List.setIfInBounds_toArray, List.set_cons_zero, List.set_cons_succ]
    refine wpAnyH_take (i := 3) (v := .agg (cellsT p)) rfl (by kernel_rfl) (by kernel_rfl) (by kernel_rfl) (fun _ _ _ h => h) (yieldsIf_run (by rfl) 78 _ rfl ⟨b, 0, none⟩ rfl _ (fun V h => loadAt_row h.pt rfl rfl (by kernel_rfl))) hHeld ?_
    try simp only [Act.put, List.getElem_toArray, List.getElem_cons_succ, List.getElem_cons_zero, List.setIfInBounds_toArray, List.set_cons_zero, List.set_cons_succ]
    refine wpAnyH_take (i := 4) (v := .int .i64 k) rfl (by kernel_rfl) (by kernel_rfl) (by kernel_rfl) (fun _ _ _ h => h) (Or.inl ⟨by rfl, fun V h => by have hh := h.one.cell; go_simp⟩) hHeld ?_
    try simp only [Act.put, List.getElem_toArray, List.getElem_cons_succ, List.getElem_cons_zero, List.setIfInBounds_toArray, List.set_cons_zero, List.set_cons_succ]
    refine wpAnyH_take (i := 5) (v := .bool cfg) rfl (by kernel_rfl) (by kernel_rfl) (by kernel_rfl) (fun _ _ _ h => h) (Or.inl ⟨by rfl, fun V h => by go_simp⟩) hHeld ?_
    try simp only [Act.put, List.getElem_toArray, List.getElem_cons_succ, List.getElem_cons_zero, List.setIfInBounds_toArray, List.set_cons_zero, List.set_cons_succ]
    refine wpAnyH_take (i := 7) (v := .pointer (some ⟨b, 0, none⟩)) rfl (by kernel_rfl) (by kernel_rfl) (by kernel_rfl) (fun _ _ _ h => h) (Or.inl ⟨by rfl, fun V h => by go_simp⟩) hHeld ?_
    try simp only [Act.put, List.getElem_toArray, List.getElem_cons_succ, List.getElem_cons_zero, List.setIfInBounds_toArray, List.set_cons_zero, List.set_cons_succ]
    refine wpAnyH_take (i := 8) (v := .pointer (some ⟨b, 0, none⟩)) rfl (by kernel_rfl) (by kernel_rfl) (by kernel_rfl) (fun _ _ _ h => h) (Or.inl ⟨by rfl, fun V h => by go_simp⟩) hHeld ?_
    try simp only [Act.put, List.getElem_toArray, List.getElem_cons_succ, List.getElem_cons_zero, List.setIfInBounds_toArray, List.set_cons_zero, List.set_cons_succ]
    refine wpAnyH_take (i := 9) (v := .pointer (some ⟨b, 14, none⟩)) rfl (by kernel_rfl) (by kernel_rfl) (by kernel_rfl) (fun _ _ _ h => h) (Or.inl ⟨by rfl, fun V h => by go_simp⟩) hHeld ?_
    try simp only [Act.put, List.getElem_toArray, List.getElem_cons_succ, List.getElem_cons_zero, List.setIfInBounds_toArray, List.set_cons_zero, List.set_cons_succ]
    refine wpAnyH_take (i := 10) (v := .agg #[.int .u64 p.offer.root, .int .u64 p.offer.cost, .int .u64 p.offer.bridge, .int .u64 p.offer.port]) rfl (by kernel_rfl) (by kernel_rfl) (by kernel_rfl) (fun _ _ _ h => h) (Or.inl ⟨by rfl, fun V h => by have h0 := h.pt.c_offer_root; have h1 := h.pt.c_offer_cost; have h2 := h.pt.c_offer_bridge; have h3 := h.pt.c_offer_port; go_simp⟩) hHeld ?_
    try simp only [Act.put, List.getElem_toArray, List.getElem_cons_succ, List.getElem_cons_zero, List.setIfInBounds_toArray, List.set_cons_zero, List.set_cons_succ]
    refine wpAnyH_take (i := 11) (v := .pointer (some ⟨b, 0, none⟩)) rfl (by kernel_rfl) (by kernel_rfl) (by kernel_rfl) (fun _ _ _ h => h) (Or.inl ⟨by rfl, fun V h => by go_simp⟩) hHeld ?_
    try simp only [Act.put, List.getElem_toArray, List.getElem_cons_succ, List.getElem_cons_zero, List.setIfInBounds_toArray, List.set_cons_zero, List.set_cons_succ]
    refine wpAnyH_take (i := 12) (v := .pointer (some ⟨b, 0, none⟩)) rfl (by kernel_rfl) (by kernel_rfl) (by kernel_rfl) (fun _ _ _ h => h) (Or.inl ⟨by rfl, fun V h => by go_simp⟩) hHeld ?_
    try simp only [Act.put, List.getElem_toArray, List.getElem_cons_succ, List.getElem_cons_zero, List.setIfInBounds_toArray, List.set_cons_zero, List.set_cons_succ]
    refine wpAnyH_take (i := 13) (v := .pointer (some ⟨b, 18, none⟩)) rfl (by kernel_rfl) (by kernel_rfl) (by kernel_rfl) (fun _ _ _ h => h) (Or.inl ⟨by rfl, fun V h => by go_simp⟩) hHeld ?_
    try simp only [Act.put, List.getElem_toArray, List.getElem_cons_succ, List.getElem_cons_zero, List.setIfInBounds_toArray, List.set_cons_zero, List.set_cons_succ]
    refine wpAnyH_take (i := 14) (v := .pointer (some ⟨b, 18, none⟩)) rfl (by kernel_rfl) (by kernel_rfl) (by kernel_rfl) (fun _ _ _ h => h) (Or.inl ⟨by rfl, fun V h => by go_simp⟩) hHeld ?_
    try simp only [Act.put, List.getElem_toArray, List.getElem_cons_succ, List.getElem_cons_zero, List.setIfInBounds_toArray, List.set_cons_zero, List.set_cons_succ]
    refine wpAnyH_take (i := 15) (v := .int .i64 p.given.age) rfl (by kernel_rfl) (by kernel_rfl) (by kernel_rfl) (fun _ _ _ h => h) (Or.inl ⟨by rfl, fun V h => by have hh := h.pt.c_given_age; go_simp⟩) hHeld ?_
    try simp only [Act.put, List.getElem_toArray, List.getElem_cons_succ, List.getElem_cons_zero, List.setIfInBounds_toArray, List.set_cons_zero, List.set_cons_succ]
    refine wpAnyH_take (i := 17) (v := .pointer (some ⟨b, 0, none⟩)) rfl (by kernel_rfl) (by kernel_rfl) (by kernel_rfl) (fun _ _ _ h => h) (Or.inl ⟨by rfl, fun V h => by go_simp⟩) hHeld ?_
    try simp only [Act.put, List.getElem_toArray, List.getElem_cons_succ, List.getElem_cons_zero, List.setIfInBounds_toArray, List.set_cons_zero, List.set_cons_succ]
    refine wpAnyH_take (i := 18) (v := .pointer (some ⟨b, 0, none⟩)) rfl (by kernel_rfl) (by kernel_rfl) (by kernel_rfl) (fun _ _ _ h => h) (Or.inl ⟨by rfl, fun V h => by go_simp⟩) hHeld ?_
    try simp only [Act.put, List.getElem_toArray, List.getElem_cons_succ, List.getElem_cons_zero, List.setIfInBounds_toArray, List.set_cons_zero, List.set_cons_succ]
    refine wpAnyH_take (i := 19) (v := .pointer (some ⟨b, 18, none⟩)) rfl (by kernel_rfl) (by kernel_rfl) (by kernel_rfl) (fun _ _ _ h => h) (Or.inl ⟨by rfl, fun V h => by go_simp⟩) hHeld ?_
    try simp only [Act.put, List.getElem_toArray, List.getElem_cons_succ, List.getElem_cons_zero, List.setIfInBounds_toArray, List.set_cons_zero, List.set_cons_succ]
    refine wpAnyH_take (i := 20) (v := .pointer (some ⟨b, 19, none⟩)) rfl (by kernel_rfl) (by kernel_rfl) (by kernel_rfl) (fun _ _ _ h => h) (Or.inl ⟨by rfl, fun V h => by go_simp⟩) hHeld ?_
    try simp only [Act.put, List.getElem_toArray, List.getElem_cons_succ, List.getElem_cons_zero, List.setIfInBounds_toArray, List.set_cons_zero, List.set_cons_succ]
    refine wpAnyH_take (i := 21) (v := .int .i64 p.given.max) rfl (by kernel_rfl) (by kernel_rfl) (by kernel_rfl) (fun _ _ _ h => h) (Or.inl ⟨by rfl, fun V h => by have hh := h.pt.c_given_max; go_simp⟩) hHeld ?_
    try simp only [Act.put, List.getElem_toArray, List.getElem_cons_succ, List.getElem_cons_zero, List.setIfInBounds_toArray, List.set_cons_zero, List.set_cons_succ]
    refine wpAnyH_take (i := 23) (v := .pointer (some ⟨b, 0, none⟩)) rfl (by kernel_rfl) (by kernel_rfl) (by kernel_rfl) (fun _ _ _ h => h) (Or.inl ⟨by rfl, fun V h => by go_simp⟩) hHeld ?_
    try simp only [Act.put, List.getElem_toArray, List.getElem_cons_succ, List.getElem_cons_zero, List.setIfInBounds_toArray, List.set_cons_zero, List.set_cons_succ]
    refine wpAnyH_take (i := 24) (v := .pointer (some ⟨b, 0, none⟩)) rfl (by kernel_rfl) (by kernel_rfl) (by kernel_rfl) (fun _ _ _ h => h) (Or.inl ⟨by rfl, fun V h => by go_simp⟩) hHeld ?_
    try simp only [Act.put, List.getElem_toArray, List.getElem_cons_succ, List.getElem_cons_zero, List.setIfInBounds_toArray, List.set_cons_zero, List.set_cons_succ]
    refine wpAnyH_take (i := 25) (v := .pointer (some ⟨b, 18, none⟩)) rfl (by kernel_rfl) (by kernel_rfl) (by kernel_rfl) (fun _ _ _ h => h) (Or.inl ⟨by rfl, fun V h => by go_simp⟩) hHeld ?_
    try simp only [Act.put, List.getElem_toArray, List.getElem_cons_succ, List.getElem_cons_zero, List.setIfInBounds_toArray, List.set_cons_zero, List.set_cons_succ]
    refine wpAnyH_take (i := 26) (v := .pointer (some ⟨b, 20, none⟩)) rfl (by kernel_rfl) (by kernel_rfl) (by kernel_rfl) (fun _ _ _ h => h) (Or.inl ⟨by rfl, fun V h => by go_simp⟩) hHeld ?_
    try simp only [Act.put, List.getElem_toArray, List.getElem_cons_succ, List.getElem_cons_zero, List.setIfInBounds_toArray, List.set_cons_zero, List.set_cons_succ]
    refine wpAnyH_take (i := 27) (v := .int .i64 p.given.hello) rfl (by kernel_rfl) (by kernel_rfl) (by kernel_rfl) (fun _ _ _ h => h) (Or.inl ⟨by rfl, fun V h => by have hh := h.pt.c_given_hello; go_simp⟩) hHeld ?_
    try simp only [Act.put, List.getElem_toArray, List.getElem_cons_succ, List.getElem_cons_zero, List.setIfInBounds_toArray, List.set_cons_zero, List.set_cons_succ]
    refine wpAnyH_take (i := 29) (v := .pointer (some ⟨b, 0, none⟩)) rfl (by kernel_rfl) (by kernel_rfl) (by kernel_rfl) (fun _ _ _ h => h) (Or.inl ⟨by rfl, fun V h => by go_simp⟩) hHeld ?_
    try simp only [Act.put, List.getElem_toArray, List.getElem_cons_succ, List.getElem_cons_zero, List.setIfInBounds_toArray, List.set_cons_zero, List.set_cons_succ]
    refine wpAnyH_take (i := 30) (v := .pointer (some ⟨b, 0, none⟩)) rfl (by kernel_rfl) (by kernel_rfl) (by kernel_rfl) (fun _ _ _ h => h) (Or.inl ⟨by rfl, fun V h => by go_simp⟩) hHeld ?_
    try simp only [Act.put, List.getElem_toArray, List.getElem_cons_succ, List.getElem_cons_zero, List.setIfInBounds_toArray, List.set_cons_zero, List.set_cons_succ]
    refine wpAnyH_take (i := 31) (v := .pointer (some ⟨b, 18, none⟩)) rfl (by kernel_rfl) (by kernel_rfl) (by kernel_rfl) (fun _ _ _ h => h) (Or.inl ⟨by rfl, fun V h => by go_simp⟩) hHeld ?_
    try simp only [Act.put, List.getElem_toArray, List.getElem_cons_succ, List.getElem_cons_zero, List.setIfInBounds_toArray, List.set_cons_zero, List.set_cons_succ]
    refine wpAnyH_take (i := 32) (v := .pointer (some ⟨b, 21, none⟩)) rfl (by kernel_rfl) (by kernel_rfl) (by kernel_rfl) (fun _ _ _ h => h) (Or.inl ⟨by rfl, fun V h => by go_simp⟩) hHeld ?_
    try simp only [Act.put, List.getElem_toArray, List.getElem_cons_succ, List.getElem_cons_zero, List.setIfInBounds_toArray, List.set_cons_zero, List.set_cons_succ]
    refine wpAnyH_take (i := 33) (v := .int .i64 p.given.delay) rfl (by kernel_rfl) (by kernel_rfl) (by kernel_rfl) (fun _ _ _ h => h) (Or.inl ⟨by rfl, fun V h => by have hh := h.pt.c_given_delay; go_simp⟩) hHeld ?_
    try simp only [Act.put, List.getElem_toArray, List.getElem_cons_succ, List.getElem_cons_zero, List.setIfInBounds_toArray, List.set_cons_zero, List.set_cons_succ]
    have S00 := Lib.hid hHeld
    refine wpAnyH_ready (rs := [6, 36]) (by kernel_rfl) (by simp) ?_
    refine AllReadyH.cons rfl (fun K hK => ?_) ?_
    · go_simp
      (with_reducible refine (CF.out _ S00.out.roles).mono ?_)
      rintro e z1 ⟨rfl, hz⟩
      have S1 := Lib.hid (S00.out.next hz)
      clear hz hHeld
      go_simp
      refine hK.out _ _ S1.out (fun hHeld => ?_)
      clear hK
      try simp only [Act.put, List.getElem_toArray, List.getElem_cons_succ, List.getElem_cons_zero, List.setIfInBounds_toArray, List.set_cons_zero, List.set_cons_succ]
      refine wpAnyH_ready (rs := [16, 36]) (by kernel_rfl) (by simp) ?_
      refine AllReadyH.cons rfl (fun K hK => ?_) ?_
      · go_simp
        (with_reducible refine (CA.out _).mono ?_)
        rintro e z2 ⟨rfl, rfl⟩
        clear hHeld
        go_simp
        refine hK.out _ _ S1.out (fun hHeld => ?_)
        clear hK
        try simp only [Act.put, List.getElem_toArray, List.getElem_cons_succ, List.getElem_cons_zero, List.setIfInBounds_toArray, List.set_cons_zero, List.set_cons_succ]
        refine wpAnyH_ready (rs := [22, 36]) (by kernel_rfl) (by simp) ?_
        refine AllReadyH.cons rfl (fun K hK => ?_) ?_
        · go_simp
          (with_reducible refine (CM.out _).mono ?_)
          rintro e z3 ⟨rfl, rfl⟩
          clear hHeld
          go_simp
          refine hK.out _ _ S1.out (fun hHeld => ?_)
          clear hK
          try simp only [Act.put, List.getElem_toArray, List.getElem_cons_succ, List.getElem_cons_zero, List.setIfInBounds_toArray, List.set_cons_zero, List.set_cons_succ]
          refine wpAnyH_ready (rs := [28, 36]) (by kernel_rfl) (by simp) ?_
          refine AllReadyH.cons rfl (fun K hK => ?_) ?_
          · go_simp
            (with_reducible refine (CH.out _).mono ?_)
            rintro e z4 ⟨rfl, rfl⟩
            clear hHeld
            go_simp
            refine hK.out _ _ S1.out (fun hHeld => ?_)
            clear hK
            try simp only [Act.put, List.getElem_toArray, List.getElem_cons_succ, List.getElem_cons_zero, List.setIfInBounds_toArray, List.set_cons_zero, List.set_cons_succ]
            refine wpAnyH_ready (rs := [34, 36]) (by kernel_rfl) (by simp) ?_
            refine AllReadyH.cons rfl (fun K hK => ?_) ?_
            · go_simp
              (with_reducible refine (CD.out _).mono ?_)
              rintro e z5 ⟨rfl, rfl⟩
              clear hHeld
              go_simp
              refine hK.out _ _ S1.out (fun hHeld => ?_)
              clear hK
              try simp only [Act.put, List.getElem_toArray, List.getElem_cons_succ, List.getElem_cons_zero, List.setIfInBounds_toArray, List.set_cons_zero, List.set_cons_succ]
              refine wpAnyH_take (i := 35) (v := .agg #[.int .i64 k, .int .i64 Fl, .int .u64 p.offer.root, .int .u64 p.offer.cost, .int .u64 p.offer.bridge, .int .u64 p.offer.port, .int .i64 A, .int .i64 Mx, .int .i64 He, .int .i64 De]) rfl (by kernel_rfl) (by kernel_rfl) (by kernel_rfl) (fun _ _ _ h => h) (Or.inl ⟨by rfl, fun V h => by go_simp⟩) hHeld ?_
              try simp only [Act.put, List.getElem_toArray, List.getElem_cons_succ, List.getElem_cons_zero, List.setIfInBounds_toArray, List.set_cons_zero, List.set_cons_succ]
              refine wpAnyH_ready (rs := [36]) (by kernel_rfl) (by simp) ?_
              refine AllReadyH.cons rfl (fun K hK => ?_) AllReadyH.nil
              go_simp
              have S6 := Lib.hid (S1.out.alloc (.cells (cellsB zeroM) 49))
              have K6 := Lib.hid (show BBlk 49 (World.alloc _ _) _ zeroM from heap_alloc_new z1 (.cells (cellsB zeroM) 49))
              have LK6 := Lib.hid (S1.out.below.size)
              refine hK.out _ _ S6.out (fun hHeld => ?_)
              clear hK
              try simp only [Act.put, List.getElem_toArray, List.getElem_cons_succ, List.getElem_cons_zero, List.setIfInBounds_toArray, List.set_cons_zero, List.set_cons_succ]
              refine wpAnyH_ready (rs := [37]) (by kernel_rfl) (by simp) ?_
              refine AllReadyH.cons rfl (fun K hK => ?_) AllReadyH.nil
              rw [if_pos (by kernel_rfl)]
              refine wp_store_row 49 _ _ rfl _ (cellsB ⟨k, Fl, p.offer.root, p.offer.cost, p.offer.bridge, p.offer.port, A, Mx, He, De⟩) rfl rfl 49 _ K6.out infoSB rfl (cellsB_one _) ?_
              have SE := Lib.hid (S6.out.row (cellsB ⟨k, Fl, p.offer.root, p.offer.cost, p.offer.bridge, p.offer.port, A, Mx, He, De⟩) LK6.out HbW.out HcW.out H0W.out)
              have KE := Lib.hid (BBlk.row K6.out ⟨k, Fl, p.offer.root, p.offer.cost, p.offer.bridge, p.offer.port, A, Mx, He, De⟩)
              refine hK.out _ _ SE.out (fun hHeld => ?_)
              clear hK
              try simp only [Act.put, List.getElem_toArray, List.getElem_cons_succ, List.getElem_cons_zero, List.setIfInBounds_toArray, List.set_cons_zero, List.set_cons_succ]
              refine wpAnyH_done (by kernel_rfl) ?_ _
              clear hHeld
              go_wp2_with fail
              go_meet
              exact ⟨_, rfl, LK6.out, KE.out, SE.out⟩
            refine AllReadyH.cons rfl (fun K hK => ?_) AllReadyH.nil
            go_simp
            have S7 := Lib.hid (S1.out.alloc (.cells (cellsB zeroM) 49))
            have K7 := Lib.hid (show BBlk 49 (World.alloc _ _) _ zeroM from heap_alloc_new z1 (.cells (cellsB zeroM) 49))
            have LK7 := Lib.hid (S1.out.below.size)
            refine hK.out _ _ S7.out (fun hHeld => ?_)
            clear hK
            try simp only [Act.put, List.getElem_toArray, List.getElem_cons_succ, List.getElem_cons_zero, List.setIfInBounds_toArray, List.set_cons_zero, List.set_cons_succ]
            refine wpAnyH_ready (rs := [34]) (by kernel_rfl) (by simp) ?_
            refine AllReadyH.cons rfl (fun K hK => ?_) AllReadyH.nil
            go_simp
            (with_reducible refine (CD.out _).mono ?_)
            rintro e z8 ⟨rfl, rfl⟩
            clear hHeld
            go_simp
            refine hK.out _ _ S7.out (fun hHeld => ?_)
            clear hK
            try simp only [Act.put, List.getElem_toArray, List.getElem_cons_succ, List.getElem_cons_zero, List.setIfInBounds_toArray, List.set_cons_zero, List.set_cons_succ]
            refine wpAnyH_take (i := 35) (v := .agg #[.int .i64 k, .int .i64 Fl, .int .u64 p.offer.root, .int .u64 p.offer.cost, .int .u64 p.offer.bridge, .int .u64 p.offer.port, .int .i64 A, .int .i64 Mx, .int .i64 He, .int .i64 De]) rfl (by kernel_rfl) (by kernel_rfl) (by kernel_rfl) (fun _ _ _ h => h) (Or.inl ⟨by rfl, fun V h => by go_simp⟩) hHeld ?_
            try simp only [Act.put, List.getElem_toArray, List.getElem_cons_succ, List.getElem_cons_zero, List.setIfInBounds_toArray, List.set_cons_zero, List.set_cons_succ]
            refine wpAnyH_ready (rs := [37]) (by kernel_rfl) (by simp) ?_
            refine AllReadyH.cons rfl (fun K hK => ?_) AllReadyH.nil
            rw [if_pos (by kernel_rfl)]
            refine wp_store_row 49 _ _ rfl _ (cellsB ⟨k, Fl, p.offer.root, p.offer.cost, p.offer.bridge, p.offer.port, A, Mx, He, De⟩) rfl rfl 49 _ K7.out infoSB rfl (cellsB_one _) ?_
            have SE := Lib.hid (S7.out.row (cellsB ⟨k, Fl, p.offer.root, p.offer.cost, p.offer.bridge, p.offer.port, A, Mx, He, De⟩) LK7.out HbW.out HcW.out H0W.out)
            have KE := Lib.hid (BBlk.row K7.out ⟨k, Fl, p.offer.root, p.offer.cost, p.offer.bridge, p.offer.port, A, Mx, He, De⟩)
            refine hK.out _ _ SE.out (fun hHeld => ?_)
            clear hK
            try simp only [Act.put, List.getElem_toArray, List.getElem_cons_succ, List.getElem_cons_zero, List.setIfInBounds_toArray, List.set_cons_zero, List.set_cons_succ]
            refine wpAnyH_done (by kernel_rfl) ?_ _
            clear hHeld
            go_wp2_with fail
            go_meet
            exact ⟨_, rfl, LK7.out, KE.out, SE.out⟩
          refine AllReadyH.cons rfl (fun K hK => ?_) AllReadyH.nil
          go_simp
          have S9 := Lib.hid (S1.out.alloc (.cells (cellsB zeroM) 49))
          have K9 := Lib.hid (show BBlk 49 (World.alloc _ _) _ zeroM from heap_alloc_new z1 (.cells (cellsB zeroM) 49))
          have LK9 := Lib.hid (S1.out.below.size)
          refine hK.out _ _ S9.out (fun hHeld => ?_)
          clear hK
          try simp only [Act.put, List.getElem_toArray, List.getElem_cons_succ, List.getElem_cons_zero, List.setIfInBounds_toArray, List.set_cons_zero, List.set_cons_succ]
          refine wpAnyH_ready (rs := [28]) (by kernel_rfl) (by simp) ?_
          refine AllReadyH.cons rfl (fun K hK => ?_) AllReadyH.nil
          go_simp
          (with_reducible refine (CH.out _).mono ?_)
          rintro e z10 ⟨rfl, rfl⟩
          clear hHeld
          go_simp
          refine hK.out _ _ S9.out (fun hHeld => ?_)
          clear hK
          try simp only [Act.put, List.getElem_toArray, List.getElem_cons_succ, List.getElem_cons_zero, List.setIfInBounds_toArray, List.set_cons_zero, List.set_cons_succ]
          refine wpAnyH_ready (rs := [34]) (by kernel_rfl) (by simp) ?_
          refine AllReadyH.cons rfl (fun K hK => ?_) AllReadyH.nil
          go_simp
          (with_reducible refine (CD.out _).mono ?_)
          rintro e z11 ⟨rfl, rfl⟩
          clear hHeld
          go_simp
          refine hK.out _ _ S9.out (fun hHeld => ?_)
          clear hK
          try simp only [Act.put, List.getElem_toArray, List.getElem_cons_succ, List.getElem_cons_zero, List.setIfInBounds_toArray, List.set_cons_zero, List.set_cons_succ]
          refine wpAnyH_take (i := 35) (v := .agg #[.int .i64 k, .int .i64 Fl, .int .u64 p.offer.root, .int .u64 p.offer.cost, .int .u64 p.offer.bridge, .int .u64 p.offer.port, .int .i64 A, .int .i64 Mx, .int .i64 He, .int .i64 De]) rfl (by kernel_rfl) (by kernel_rfl) (by kernel_rfl) (fun _ _ _ h => h) (Or.inl ⟨by rfl, fun V h => by go_simp⟩) hHeld ?_
          try simp only [Act.put, List.getElem_toArray, List.getElem_cons_succ, List.getElem_cons_zero, List.setIfInBounds_toArray, List.set_cons_zero, List.set_cons_succ]
          refine wpAnyH_ready (rs := [37]) (by kernel_rfl) (by simp) ?_
          refine AllReadyH.cons rfl (fun K hK => ?_) AllReadyH.nil
          rw [if_pos (by kernel_rfl)]
          refine wp_store_row 49 _ _ rfl _ (cellsB ⟨k, Fl, p.offer.root, p.offer.cost, p.offer.bridge, p.offer.port, A, Mx, He, De⟩) rfl rfl 49 _ K9.out infoSB rfl (cellsB_one _) ?_
          have SE := Lib.hid (S9.out.row (cellsB ⟨k, Fl, p.offer.root, p.offer.cost, p.offer.bridge, p.offer.port, A, Mx, He, De⟩) LK9.out HbW.out HcW.out H0W.out)
          have KE := Lib.hid (BBlk.row K9.out ⟨k, Fl, p.offer.root, p.offer.cost, p.offer.bridge, p.offer.port, A, Mx, He, De⟩)
          refine hK.out _ _ SE.out (fun hHeld => ?_)
          clear hK
          try simp only [Act.put, List.getElem_toArray, List.getElem_cons_succ, List.getElem_cons_zero, List.setIfInBounds_toArray, List.set_cons_zero, List.set_cons_succ]
          refine wpAnyH_done (by kernel_rfl) ?_ _
          clear hHeld
          go_wp2_with fail
          go_meet
          exact ⟨_, rfl, LK9.out, KE.out, SE.out⟩
        refine AllReadyH.cons rfl (fun K hK => ?_) AllReadyH.nil
        go_simp
        have S12 := Lib.hid (S1.out.alloc (.cells (cellsB zeroM) 49))
        have K12 := Lib.hid (show BBlk 49 (World.alloc _ _) _ zeroM from heap_alloc_new z1 (.cells (cellsB zeroM) 49))
        have LK12 := Lib.hid (S1.out.below.size)
        refine hK.out _ _ S12.out (fun hHeld => ?_)
        clear hK
        try simp only [Act.put, List.getElem_toArray, List.getElem_cons_succ, List.getElem_cons_zero, List.setIfInBounds_toArray, List.set_cons_zero, List.set_cons_succ]
        refine wpAnyH_ready (rs := [22]) (by kernel_rfl) (by simp) ?_
        refine AllReadyH.cons rfl (fun K hK => ?_) AllReadyH.nil
        go_simp
        (with_reducible refine (CM.out _).mono ?_)
        rintro e z13 ⟨rfl, rfl⟩
        clear hHeld
        go_simp
        refine hK.out _ _ S12.out (fun hHeld => ?_)
        clear hK
        try simp only [Act.put, List.getElem_toArray, List.getElem_cons_succ, List.getElem_cons_zero, List.setIfInBounds_toArray, List.set_cons_zero, List.set_cons_succ]
        refine wpAnyH_ready (rs := [28]) (by kernel_rfl) (by simp) ?_
        refine AllReadyH.cons rfl (fun K hK => ?_) AllReadyH.nil
        go_simp
        (with_reducible refine (CH.out _).mono ?_)
        rintro e z14 ⟨rfl, rfl⟩
        clear hHeld
        go_simp
        refine hK.out _ _ S12.out (fun hHeld => ?_)
        clear hK
        try simp only [Act.put, List.getElem_toArray, List.getElem_cons_succ, List.getElem_cons_zero, List.setIfInBounds_toArray, List.set_cons_zero, List.set_cons_succ]
        refine wpAnyH_ready (rs := [34]) (by kernel_rfl) (by simp) ?_
        refine AllReadyH.cons rfl (fun K hK => ?_) AllReadyH.nil
        go_simp
        (with_reducible refine (CD.out _).mono ?_)
        rintro e z15 ⟨rfl, rfl⟩
        clear hHeld
        go_simp
        refine hK.out _ _ S12.out (fun hHeld => ?_)
        clear hK
        try simp only [Act.put, List.getElem_toArray, List.getElem_cons_succ, List.getElem_cons_zero, List.setIfInBounds_toArray, List.set_cons_zero, List.set_cons_succ]
        refine wpAnyH_take (i := 35) (v := .agg #[.int .i64 k, .int .i64 Fl, .int .u64 p.offer.root, .int .u64 p.offer.cost, .int .u64 p.offer.bridge, .int .u64 p.offer.port, .int .i64 A, .int .i64 Mx, .int .i64 He, .int .i64 De]) rfl (by kernel_rfl) (by kernel_rfl) (by kernel_rfl) (fun _ _ _ h => h) (Or.inl ⟨by rfl, fun V h => by go_simp⟩) hHeld ?_
        try simp only [Act.put, List.getElem_toArray, List.getElem_cons_succ, List.getElem_cons_zero, List.setIfInBounds_toArray, List.set_cons_zero, List.set_cons_succ]
        refine wpAnyH_ready (rs := [37]) (by kernel_rfl) (by simp) ?_
        refine AllReadyH.cons rfl (fun K hK => ?_) AllReadyH.nil
        rw [if_pos (by kernel_rfl)]
        refine wp_store_row 49 _ _ rfl _ (cellsB ⟨k, Fl, p.offer.root, p.offer.cost, p.offer.bridge, p.offer.port, A, Mx, He, De⟩) rfl rfl 49 _ K12.out infoSB rfl (cellsB_one _) ?_
        have SE := Lib.hid (S12.out.row (cellsB ⟨k, Fl, p.offer.root, p.offer.cost, p.offer.bridge, p.offer.port, A, Mx, He, De⟩) LK12.out HbW.out HcW.out H0W.out)
        have KE := Lib.hid (BBlk.row K12.out ⟨k, Fl, p.offer.root, p.offer.cost, p.offer.bridge, p.offer.port, A, Mx, He, De⟩)
        refine hK.out _ _ SE.out (fun hHeld => ?_)
        clear hK
        try simp only [Act.put, List.getElem_toArray, List.getElem_cons_succ, List.getElem_cons_zero, List.setIfInBounds_toArray, List.set_cons_zero, List.set_cons_succ]
        refine wpAnyH_done (by kernel_rfl) ?_ _
        clear hHeld
        go_wp2_with fail
        go_meet
        exact ⟨_, rfl, LK12.out, KE.out, SE.out⟩
      refine AllReadyH.cons rfl (fun K hK => ?_) AllReadyH.nil
      go_simp
      have S16 := Lib.hid (S1.out.alloc (.cells (cellsB zeroM) 49))
      have K16 := Lib.hid (show BBlk 49 (World.alloc _ _) _ zeroM from heap_alloc_new z1 (.cells (cellsB zeroM) 49))
      have LK16 := Lib.hid (S1.out.below.size)
      refine hK.out _ _ S16.out (fun hHeld => ?_)
      clear hK
      try simp only [Act.put, List.getElem_toArray, List.getElem_cons_succ, List.getElem_cons_zero, List.setIfInBounds_toArray, List.set_cons_zero, List.set_cons_succ]
      refine wpAnyH_ready (rs := [16]) (by kernel_rfl) (by simp) ?_
      refine AllReadyH.cons rfl (fun K hK => ?_) AllReadyH.nil
      go_simp
      (with_reducible refine (CA.out _).mono ?_)
      rintro e z17 ⟨rfl, rfl⟩
      clear hHeld
      go_simp
      refine hK.out _ _ S16.out (fun hHeld => ?_)
      clear hK
      try simp only [Act.put, List.getElem_toArray, List.getElem_cons_succ, List.getElem_cons_zero, List.setIfInBounds_toArray, List.set_cons_zero, List.set_cons_succ]
      refine wpAnyH_ready (rs := [22]) (by kernel_rfl) (by simp) ?_
      refine AllReadyH.cons rfl (fun K hK => ?_) AllReadyH.nil
      go_simp
      (with_reducible refine (CM.out _).mono ?_)
      rintro e z18 ⟨rfl, rfl⟩
      clear hHeld
      go_simp
      refine hK.out _ _ S16.out (fun hHeld => ?_)
      clear hK
      try simp only [Act.put, List.getElem_toArray, List.getElem_cons_succ, List.getElem_cons_zero, List.setIfInBounds_toArray, List.set_cons_zero, List.set_cons_succ]
      refine wpAnyH_ready (rs := [28]) (by kernel_rfl) (by simp) ?_
      refine AllReadyH.cons rfl (fun K hK => ?_) AllReadyH.nil
      go_simp
      (with_reducible refine (CH.out _).mono ?_)
      rintro e z19 ⟨rfl, rfl⟩
      clear hHeld
      go_simp
      refine hK.out _ _ S16.out (fun hHeld => ?_)
      clear hK
      try simp only [Act.put, List.getElem_toArray, List.getElem_cons_succ, List.getElem_cons_zero, List.setIfInBounds_toArray, List.set_cons_zero, List.set_cons_succ]
      refine wpAnyH_ready (rs := [34]) (by kernel_rfl) (by simp) ?_
      refine AllReadyH.cons rfl (fun K hK => ?_) AllReadyH.nil
      go_simp
      (with_reducible refine (CD.out _).mono ?_)
      rintro e z20 ⟨rfl, rfl⟩
      clear hHeld
      go_simp
      refine hK.out _ _ S16.out (fun hHeld => ?_)
      clear hK
      try simp only [Act.put, List.getElem_toArray, List.getElem_cons_succ, List.getElem_cons_zero, List.setIfInBounds_toArray, List.set_cons_zero, List.set_cons_succ]
      refine wpAnyH_take (i := 35) (v := .agg #[.int .i64 k, .int .i64 Fl, .int .u64 p.offer.root, .int .u64 p.offer.cost, .int .u64 p.offer.bridge, .int .u64 p.offer.port, .int .i64 A, .int .i64 Mx, .int .i64 He, .int .i64 De]) rfl (by kernel_rfl) (by kernel_rfl) (by kernel_rfl) (fun _ _ _ h => h) (Or.inl ⟨by rfl, fun V h => by go_simp⟩) hHeld ?_
      try simp only [Act.put, List.getElem_toArray, List.getElem_cons_succ, List.getElem_cons_zero, List.setIfInBounds_toArray, List.set_cons_zero, List.set_cons_succ]
      refine wpAnyH_ready (rs := [37]) (by kernel_rfl) (by simp) ?_
      refine AllReadyH.cons rfl (fun K hK => ?_) AllReadyH.nil
      rw [if_pos (by kernel_rfl)]
      refine wp_store_row 49 _ _ rfl _ (cellsB ⟨k, Fl, p.offer.root, p.offer.cost, p.offer.bridge, p.offer.port, A, Mx, He, De⟩) rfl rfl 49 _ K16.out infoSB rfl (cellsB_one _) ?_
      have SE := Lib.hid (S16.out.row (cellsB ⟨k, Fl, p.offer.root, p.offer.cost, p.offer.bridge, p.offer.port, A, Mx, He, De⟩) LK16.out HbW.out HcW.out H0W.out)
      have KE := Lib.hid (BBlk.row K16.out ⟨k, Fl, p.offer.root, p.offer.cost, p.offer.bridge, p.offer.port, A, Mx, He, De⟩)
      refine hK.out _ _ SE.out (fun hHeld => ?_)
      clear hK
      try simp only [Act.put, List.getElem_toArray, List.getElem_cons_succ, List.getElem_cons_zero, List.setIfInBounds_toArray, List.set_cons_zero, List.set_cons_succ]
      refine wpAnyH_done (by kernel_rfl) ?_ _
      clear hHeld
      go_wp2_with fail
      go_meet
      exact ⟨_, rfl, LK16.out, KE.out, SE.out⟩
    refine AllReadyH.cons rfl (fun K hK => ?_) AllReadyH.nil
    go_simp
    have S21 := Lib.hid ((S0.out.alloc (.cells #[.int .i64 0, .int .i64 0, .int .u64 0, .int .u64 0, .int .u64 0, .int .u64 0, .int .i64 0, .int .i64 0, .int .i64 0, .int .i64 0] 49)).drew)
    have K21 := Lib.hid (show BBlk 49 (World.alloc W _).drew W.heap.size zeroM from heap_alloc_new W (.cells (cellsB zeroM) 49))
    have LK21 := Lib.hid (S00.out.below.size)
    refine hK.out _ _ S21.out (fun hHeld => ?_)
    clear hK
    try simp only [Act.put, List.getElem_toArray, List.getElem_cons_succ, List.getElem_cons_zero, List.setIfInBounds_toArray, List.set_cons_zero, List.set_cons_succ]
    refine wpAnyH_ready (rs := [6]) (by kernel_rfl) (by simp) ?_
    refine AllReadyH.cons rfl (fun K hK => ?_) AllReadyH.nil
    go_simp
    (with_reducible refine (CF.out _ S21.out.roles).mono ?_)
    rintro e z22 ⟨rfl, hz⟩
    have S22 := Lib.hid (S21.out.next hz)
    have K22 := Lib.hid (K21.out.next hz)
    have LK22 := LK21
    clear hz hHeld
    go_simp
    refine hK.out _ _ S22.out (fun hHeld => ?_)
    clear hK
    try simp only [Act.put, List.getElem_toArray, List.getElem_cons_succ, List.getElem_cons_zero, List.setIfInBounds_toArray, List.set_cons_zero, List.set_cons_succ]
    refine wpAnyH_ready (rs := [16]) (by kernel_rfl) (by simp) ?_
    refine AllReadyH.cons rfl (fun K hK => ?_) AllReadyH.nil
    go_simp
    (with_reducible refine (CA.out _).mono ?_)
    rintro e z23 ⟨rfl, rfl⟩
    clear hHeld
    go_simp
    refine hK.out _ _ S22.out (fun hHeld => ?_)
    clear hK
    try simp only [Act.put, List.getElem_toArray, List.getElem_cons_succ, List.getElem_cons_zero, List.setIfInBounds_toArray, List.set_cons_zero, List.set_cons_succ]
    refine wpAnyH_ready (rs := [22]) (by kernel_rfl) (by simp) ?_
    refine AllReadyH.cons rfl (fun K hK => ?_) AllReadyH.nil
    go_simp
    (with_reducible refine (CM.out _).mono ?_)
    rintro e z24 ⟨rfl, rfl⟩
    clear hHeld
    go_simp
    refine hK.out _ _ S22.out (fun hHeld => ?_)
    clear hK
    try simp only [Act.put, List.getElem_toArray, List.getElem_cons_succ, List.getElem_cons_zero, List.setIfInBounds_toArray, List.set_cons_zero, List.set_cons_succ]
    refine wpAnyH_ready (rs := [28]) (by kernel_rfl) (by simp) ?_
    refine AllReadyH.cons rfl (fun K hK => ?_) AllReadyH.nil
    go_simp
    (with_reducible refine (CH.out _).mono ?_)
    rintro e z25 ⟨rfl, rfl⟩
    clear hHeld
    go_simp
    refine hK.out _ _ S22.out (fun hHeld => ?_)
    clear hK
    try simp only [Act.put, List.getElem_toArray, List.getElem_cons_succ, List.getElem_cons_zero, List.setIfInBounds_toArray, List.set_cons_zero, List.set_cons_succ]
    refine wpAnyH_ready (rs := [34]) (by kernel_rfl) (by simp) ?_
    refine AllReadyH.cons rfl (fun K hK => ?_) AllReadyH.nil
    go_simp
    (with_reducible refine (CD.out _).mono ?_)
    rintro e z26 ⟨rfl, rfl⟩
    clear hHeld
    go_simp
    refine hK.out _ _ S22.out (fun hHeld => ?_)
    clear hK
    try simp only [Act.put, List.getElem_toArray, List.getElem_cons_succ, List.getElem_cons_zero, List.setIfInBounds_toArray, List.set_cons_zero, List.set_cons_succ]
    refine wpAnyH_take (i := 35) (v := .agg #[.int .i64 k, .int .i64 Fl, .int .u64 p.offer.root, .int .u64 p.offer.cost, .int .u64 p.offer.bridge, .int .u64 p.offer.port, .int .i64 A, .int .i64 Mx, .int .i64 He, .int .i64 De]) rfl (by kernel_rfl) (by kernel_rfl) (by kernel_rfl) (fun _ _ _ h => h) (Or.inl ⟨by rfl, fun V h => by go_simp⟩) hHeld ?_
    try simp only [Act.put, List.getElem_toArray, List.getElem_cons_succ, List.getElem_cons_zero, List.setIfInBounds_toArray, List.set_cons_zero, List.set_cons_succ]
    refine wpAnyH_ready (rs := [37]) (by kernel_rfl) (by simp) ?_
    refine AllReadyH.cons rfl (fun K hK => ?_) AllReadyH.nil
    rw [if_pos (by kernel_rfl)]
    refine wp_store_row 49 _ _ rfl _ (cellsB ⟨k, Fl, p.offer.root, p.offer.cost, p.offer.bridge, p.offer.port, A, Mx, He, De⟩) rfl rfl 49 _ K22.out infoSB rfl (cellsB_one _) ?_
    have SE := Lib.hid (S22.out.row (cellsB ⟨k, Fl, p.offer.root, p.offer.cost, p.offer.bridge, p.offer.port, A, Mx, He, De⟩) LK22.out HbW.out HcW.out H0W.out)
    have KE := Lib.hid (BBlk.row K22.out ⟨k, Fl, p.offer.root, p.offer.cost, p.offer.bridge, p.offer.port, A, Mx, He, De⟩)
    refine hK.out _ _ SE.out (fun hHeld => ?_)
    clear hK
    try simp only [Act.put, List.getElem_toArray, List.getElem_cons_succ, List.getElem_cons_zero, List.setIfInBounds_toArray, List.set_cons_zero, List.set_cons_succ]
    refine wpAnyH_done (by kernel_rfl) ?_ _
    clear hHeld
    go_wp2_with fail
    go_meet
    exact ⟨_, rfl, LK22.out, KE.out, SE.out⟩
  case rest =>
  obtain ⟨n, rfl, hn, kn, so⟩ := hcut
  have hBw := Lib.hid (KB.out.trans (so.below.mono KB.out.size))
  have T1 := Lib.hid (((tn_below HP.out hBw.out).set 43 (.bool false) (so.pt.s_tcAck false)).as hX.out)
  have f := so.pt.free
  have c_tcAck := so.pt.c_tcAck
  have hrb : rb < W.heap.size := KR.out.lt
  have hbr : b < rb := by rw [← HR.out]; exact HP.out.lt
  have KN := Lib.hid (kn.other (c := b) 43 (.bool false) (by omega))
  have KR1 := Lib.hid ((KR.out.next so.below).other (c := b) 43 (.bool false) (by omega))
  have HWR := Lib.hid (show w.heap.size ≤ rb by rw [← HR.out]; exact Nat.le_refl _)
  clear kn so hn hrb hbr
  go_upto_region 3 with (fail)
  refine wp_region_list ?_
  refine wpList_load_row rfl 49 _ rfl n rfl 49 (cellsB ⟨k, Fl, p.offer.root, p.offer.cost, p.offer.bridge, p.offer.port, A, Mx, He, De⟩) (0, 0) _ KN.out rfl rfl infoSB ?_
  refine wpList_store_row rfl 49 _ _ rfl rb (cellsB ⟨k, Fl, p.offer.root, p.offer.cost, p.offer.bridge, p.offer.port, A, Mx, He, De⟩) rfl rfl 49 _ KR1.out infoSB rfl (cellsB_one _) ?_
  have K5 := Lib.hid (KR1.out.row ⟨k, Fl, p.offer.root, p.offer.cost, p.offer.bridge, p.offer.port, A, Mx, He, De⟩)
  have K6 := Lib.hid (tn_row T1.out HWR.out HP.out.lt (cellsB ⟨k, Fl, p.offer.root, p.offer.cost, p.offer.bridge, p.offer.port, A, Mx, He, De⟩))
  go_wp2
  exact bodyPost_ret (v := bv k Fl p.offer.root p.offer.cost p.offer.bridge p.offer.port A Mx He De) (results_cell_row rfl _ _ rb 49 (cellsB ⟨k, Fl, p.offer.root, p.offer.cost, p.offer.bridge, p.offer.port, A, Mx, He, De⟩) (0, 0) _ rfl K5.out rfl rfl infoSB) rfl ⟨rfl, K6.out⟩

/-- What the closure says of a port, by its number and what it holds. -/
structure Speech (p : Pt) (v : Value) (w : World) : Prop where
  no : kindP p = 0 → v = .nilFunc
  notice : kindP p = 2 → v = .func (.func 140) #[] #[]
  offer : kindP p = 1 ∨ kindP p = 3 → ∃ c, v = .func (.func 173) #[] #[.pointer (some ⟨c, 0, none⟩)] ∧ One 3 w c (.int .i64 (kindP p))

set_option maxHeartbeats 1000000 in
theorem speech_rapid_w (p : Pt) (w : World) (hs : p.sendRstp = true) (h1 : 1 ≤ p.role) (h4 : p.role ≤ 4) :
    Calls Tryz.prog 95 #[.agg (cellsT p)] w fun e w' => ∃ v, e = .returned v ∧ Speech p v w' ∧ Below w.heap.size w w' := by
  have hk : kindP p = 3 := by unfold kindP; rw [hs]; rw [if_pos rfl, if_pos ⟨h1, h4⟩]
  have HK := Lib.hid hk
  have k0 := ptblk_new 78 w p
  have B0 := Lib.hid (below_box w (.cells (cellsT p) 78))
  have c_s := k0.c_sendRstp
  have c_role := k0.c_role
  rw [hs] at c_s
  clear k0 hk hs
  obtain ⟨r, hr⟩ : ∃ r, p.role = r := ⟨_, rfl⟩
  rw [hr] at c_role
  rw [hr] at h1 h4
  have g1 : r ≥ 1 := h1
  clear hr
  go_enter Tryz.func95, Tryz.ntmps95
  go_wp2_with (go_at_call 139; (with_reducible refine (offering_w _ _).mono ?_); rintro e w1 ⟨rfl, o1, b1⟩)
  go_ret
  exact ⟨_, ret_val rfl, ⟨fun h => absurd (HK.out.symm.trans h) (by decide), fun h => absurd (HK.out.symm.trans h) (by decide), fun _ => ⟨_, rfl, by rw [size_box] at o1; rw [HK.out]; exact o1⟩⟩, bw_trans B0.out b1⟩

set_option maxHeartbeats 1000000 in
theorem speech_config_w (p : Pt) (w : World) (hs : p.sendRstp = false) (h2 : p.role = 2) :
    Calls Tryz.prog 95 #[.agg (cellsT p)] w fun e w' => ∃ v, e = .returned v ∧ Speech p v w' ∧ Below w.heap.size w w' := by
  have hk : kindP p = 1 := by unfold kindP; rw [hs]; rw [if_neg (by decide), if_pos h2]
  have HK := Lib.hid hk
  have k0 := ptblk_new 78 w p
  have B0 := Lib.hid (below_box w (.cells (cellsT p) 78))
  have c_s := k0.c_sendRstp
  have c_role := k0.c_role
  rw [hs] at c_s
  clear k0 hk hs
  obtain ⟨r, hr⟩ : ∃ r, p.role = r := ⟨_, rfl⟩
  rw [hr] at c_role
  rw [hr] at h2
  subst h2
  clear hr
  go_enter Tryz.func95, Tryz.ntmps95
  go_wp2_with (go_at_call 139; (with_reducible refine (offering_w _ _).mono ?_); rintro e w1 ⟨rfl, o1, b1⟩)
  go_ret
  exact ⟨_, ret_val rfl, ⟨fun h => absurd (HK.out.symm.trans h) (by decide), fun h => absurd (HK.out.symm.trans h) (by decide), fun _ => ⟨_, rfl, by rw [size_box] at o1; rw [HK.out]; exact o1⟩⟩, bw_trans B0.out b1⟩

set_option maxHeartbeats 1000000 in
theorem speech_notice_w (p : Pt) (w : World) (hs : p.sendRstp = false) (h1 : p.role = 1) :
    Calls Tryz.prog 95 #[.agg (cellsT p)] w fun e w' => ∃ v, e = .returned v ∧ Speech p v w' ∧ Below w.heap.size w w' := by
  have hk : kindP p = 2 := by unfold kindP; rw [hs]; rw [if_neg (by decide), if_neg (by omega), if_pos h1]
  have HK := Lib.hid hk
  have k0 := ptblk_new 78 w p
  have B0 := Lib.hid (below_box w (.cells (cellsT p) 78))
  have c_s := k0.c_sendRstp
  have c_role := k0.c_role
  rw [hs] at c_s
  clear k0 hk hs
  obtain ⟨r, hr⟩ : ∃ r, p.role = r := ⟨_, rfl⟩
  rw [hr] at c_role
  rw [hr] at h1
  subst h1
  clear hr
  go_enter Tryz.func95, Tryz.ntmps95
  go_wp2
  go_ret
  exact ⟨_, ret_val rfl, ⟨fun h => absurd (HK.out.symm.trans h) (by decide), fun h => rfl, fun h => absurd h (by rw [HK.out]; decide)⟩, B0.out⟩

set_option maxHeartbeats 1000000 in
theorem speech_rno_w (p : Pt) (w : World) (hs : p.sendRstp = true) (hn : ¬ (1 ≤ p.role ∧ p.role ≤ 4)) :
    Calls Tryz.prog 95 #[.agg (cellsT p)] w fun e w' => ∃ v, e = .returned v ∧ Speech p v w' ∧ Below w.heap.size w w' := by
  have hk : kindP p = 0 := by unfold kindP; rw [hs]; rw [if_pos rfl, if_neg hn]
  have HK := Lib.hid hk
  have k0 := ptblk_new 78 w p
  have B0 := Lib.hid (below_box w (.cells (cellsT p) 78))
  have c_s := k0.c_sendRstp
  have c_role := k0.c_role
  rw [hs] at c_s
  clear k0 hk hs
  obtain ⟨r, hr⟩ : ∃ r, p.role = r := ⟨_, rfl⟩
  rw [hr] at c_role
  rw [hr] at hn
  clear hr
  obtain ⟨z1, d1⟩ : ∃ z, decide (r ≥ 1) = z := ⟨_, rfl⟩
  obtain ⟨z2, d2⟩ : ∃ z, decide (r ≤ 4) = z := ⟨_, rfl⟩
  have hz : (z1 && z2) = false := by rw [← d1, ← d2]; simp; omega
  cases z1 <;> cases z2
  case true.true => cases hz
  all_goals
    go_enter Tryz.func95, Tryz.ntmps95
    go_wp2
    all_goals first | (exfalso; simp_all; omega) | skip
    all_goals go_ret
    all_goals exact ⟨_, ret_val rfl, ⟨fun h => rfl, fun h => absurd (HK.out.symm.trans h) (by decide), fun h => absurd h (by rw [HK.out]; decide)⟩, B0.out⟩

set_option maxHeartbeats 1000000 in
theorem speech_no_w (p : Pt) (w : World) (hs : p.sendRstp = false) (h2 : ¬ p.role = 2) (h1 : ¬ p.role = 1) :
    Calls Tryz.prog 95 #[.agg (cellsT p)] w fun e w' => ∃ v, e = .returned v ∧ Speech p v w' ∧ Below w.heap.size w w' := by
  have hk : kindP p = 0 := by unfold kindP; rw [hs]; rw [if_neg (by decide), if_neg h2, if_neg h1]
  have HK := Lib.hid hk
  have k0 := ptblk_new 78 w p
  have B0 := Lib.hid (below_box w (.cells (cellsT p) 78))
  have c_s := k0.c_sendRstp
  have c_role := k0.c_role
  rw [hs] at c_s
  clear k0 hk hs
  obtain ⟨r, hr⟩ : ∃ r, p.role = r := ⟨_, rfl⟩
  rw [hr] at c_role
  rw [hr] at h1 h2
  clear hr
  have d1 : (r == 1) = false := by simpa using h1
  have d2 : (r == 2) = false := by simpa using h2
  all_goals
    go_enter Tryz.func95, Tryz.ntmps95
    go_wp2
    all_goals first | (exfalso; simp_all; omega) | skip
    all_goals go_ret
    all_goals exact ⟨_, ret_val rfl, ⟨fun h => rfl, fun h => absurd (HK.out.symm.trans h) (by decide), fun h => absurd h (by rw [HK.out]; decide)⟩, B0.out⟩

theorem speech_w (p : Pt) (w : World) : Calls Tryz.prog 95 #[.agg (cellsT p)] w fun e w' => ∃ v, e = .returned v ∧ Speech p v w' ∧ Below w.heap.size w w' := by
  cases hs : p.sendRstp with
  | true =>
    by_cases h : 1 ≤ p.role ∧ p.role ≤ 4
    · exact speech_rapid_w p w hs h.1 h.2
    · exact speech_rno_w p w hs h
  | false =>
    by_cases h2 : p.role = 2
    · exact speech_config_w p w hs h2
    by_cases h1 : p.role = 1
    · exact speech_notice_w p w hs h1
    exact speech_no_w p w hs h2 h1
end Go.Proofs.YtldobcfejldbiaaGreatDoor
