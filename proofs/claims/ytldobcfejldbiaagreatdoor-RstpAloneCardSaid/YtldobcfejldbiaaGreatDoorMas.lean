/-
  Layer 12: ports compared; slices.Equal of ports.
  Layer 12: slices.Equal of ports; Move.
  Layer 12: Pass; Move.
-/
import Derived.Test.YtldobcfejldbiaaGreatDoorMar
import Derived.Deep.MidRow
namespace Go.Proofs.YtldobcfejldbiaaGreatDoor
set_option linter.unusedVariables false
set_option linter.unusedSimpArgs false
open Go.RowKit Vm Rm Bm Im

theorem vc_ext {a b : Vc} (h0 : a.root = b.root) (h1 : a.cost = b.cost) (h2 : a.bridge = b.bridge) (h3 : a.port = b.port) : a = b := by
  cases a; cases b; dsimp only at h0 h1 h2 h3; subst h0 h1 h2 h3; rfl
theorem tm_ext {a b : Tm} (h0 : a.age = b.age) (h1 : a.max = b.max) (h2 : a.hello = b.hello) (h3 : a.delay = b.delay) : a = b := by
  cases a; cases b; dsimp only at h0 h1 h2 h3; subst h0 h1 h2 h3; rfl
theorem pt_ext0 {p q : Pt} (h_id : p.id = q.id) (h_cost : p.cost = q.cost) (h_on : p.on = q.on) (h_admin : p.admin = q.admin) (h_oper : p.oper = q.oper) (h_source : p.source = q.source) (h_vec : p.vec = q.vec) (h_times : p.times = q.times) (h_offer : p.offer = q.offer) (h_given : p.given = q.given) (h_role : p.role = q.role) (h_selected : p.selected = q.selected) (h_ready : p.ready = q.ready) (h_update : p.update = q.update) (h_reselect : p.reselect = q.reselect) (h_learn : p.learn = q.learn) (h_learning : p.learning = q.learning) (h_forward : p.forward = q.forward) (h_forwarding : p.forwarding = q.forwarding) (h_agree : p.agree = q.agree) (h_agreed : p.agreed = q.agreed) (h_proposed : p.proposed = q.proposed) (h_proposing : p.proposing = q.proposing) (h_sync : p.sync = q.sync) (h_synced : p.synced = q.synced) (h_reroot : p.reroot = q.reroot) (h_disputed : p.disputed = q.disputed) (h_newInfo : p.newInfo = q.newInfo) (h_heardTc : p.heardTc = q.heardTc) (h_heardTcn : p.heardTcn = q.heardTcn) (h_heardAck : p.heardAck = q.heardAck) (h_tcAck : p.tcAck = q.tcAck) (h_tcProp : p.tcProp = q.tcProp) (h_flush : p.flush = q.flush) (h_sendRstp : p.sendRstp = q.sendRstp) (h_heardRstp : p.heardRstp = q.heardRstp) (h_heardStp : p.heardStp = q.heardStp) (h_check : p.check = q.check) (h_fd : p.fd = q.fd) (h_rr : p.rr = q.rr) (h_rb : p.rb = q.rb) (h_tc : p.tc = q.tc) (h_edge : p.edge = q.edge) (h_md : p.md = q.md) (h_info : p.info = q.info) (h_hello : p.hello = q.hello) (h_txCount : p.txCount = q.txCount) (h_change : p.change = q.change) (h_migrate : p.migrate = q.migrate) : p = q := by
  cases p; cases q; dsimp only at h_id h_cost h_on h_admin h_oper h_source h_vec h_times h_offer h_given h_role h_selected h_ready h_update h_reselect h_learn h_learning h_forward h_forwarding h_agree h_agreed h_proposed h_proposing h_sync h_synced h_reroot h_disputed h_newInfo h_heardTc h_heardTcn h_heardAck h_tcAck h_tcProp h_flush h_sendRstp h_heardRstp h_heardStp h_check h_fd h_rr h_rb h_tc h_edge h_md h_info h_hello h_txCount h_change h_migrate; subst h_id h_cost h_on h_admin h_oper h_source h_vec h_times h_offer h_given h_role h_selected h_ready h_update h_reselect h_learn h_learning h_forward h_forwarding h_agree h_agreed h_proposed h_proposing h_sync h_synced h_reroot h_disputed h_newInfo h_heardTc h_heardTcn h_heardAck h_tcAck h_tcProp h_flush h_sendRstp h_heardRstp h_heardStp h_check h_fd h_rr h_rb h_tc h_edge h_md h_info h_hello h_txCount h_change h_migrate; rfl
theorem pt_ext (p q : Pt) (h0 : p.id = q.id) (h1 : p.cost = q.cost) (h2 : p.on = q.on) (h3 : p.admin = q.admin) (h4 : p.oper = q.oper) (h5 : p.source = q.source) (h6 : p.vec.root = q.vec.root) (h7 : p.vec.cost = q.vec.cost) (h8 : p.vec.bridge = q.vec.bridge) (h9 : p.vec.port = q.vec.port) (h10 : p.times.age = q.times.age) (h11 : p.times.max = q.times.max) (h12 : p.times.hello = q.times.hello) (h13 : p.times.delay = q.times.delay) (h14 : p.offer.root = q.offer.root) (h15 : p.offer.cost = q.offer.cost) (h16 : p.offer.bridge = q.offer.bridge) (h17 : p.offer.port = q.offer.port) (h18 : p.given.age = q.given.age) (h19 : p.given.max = q.given.max) (h20 : p.given.hello = q.given.hello) (h21 : p.given.delay = q.given.delay) (h22 : p.role = q.role) (h23 : p.selected = q.selected) (h24 : p.ready = q.ready) (h25 : p.update = q.update) (h26 : p.reselect = q.reselect) (h27 : p.learn = q.learn) (h28 : p.learning = q.learning) (h29 : p.forward = q.forward) (h30 : p.forwarding = q.forwarding) (h31 : p.agree = q.agree) (h32 : p.agreed = q.agreed) (h33 : p.proposed = q.proposed) (h34 : p.proposing = q.proposing) (h35 : p.sync = q.sync) (h36 : p.synced = q.synced) (h37 : p.reroot = q.reroot) (h38 : p.disputed = q.disputed) (h39 : p.newInfo = q.newInfo) (h40 : p.heardTc = q.heardTc) (h41 : p.heardTcn = q.heardTcn) (h42 : p.heardAck = q.heardAck) (h43 : p.tcAck = q.tcAck) (h44 : p.tcProp = q.tcProp) (h45 : p.flush = q.flush) (h46 : p.sendRstp = q.sendRstp) (h47 : p.heardRstp = q.heardRstp) (h48 : p.heardStp = q.heardStp) (h49 : p.check = q.check) (h50 : p.fd = q.fd) (h51 : p.rr = q.rr) (h52 : p.rb = q.rb) (h53 : p.tc = q.tc) (h54 : p.edge = q.edge) (h55 : p.md = q.md) (h56 : p.info = q.info) (h57 : p.hello = q.hello) (h58 : p.txCount = q.txCount) (h59 : p.change = q.change) (h60 : p.migrate = q.migrate) : p = q := pt_ext0 h0 h1 h2 h3 h4 h5 (vc_ext h6 h7 h8 h9) (tm_ext h10 h11 h12 h13) (vc_ext h14 h15 h16 h17) (tm_ext h18 h19 h20 h21) h22 h23 h24 h25 h26 h27 h28 h29 h30 h31 h32 h33 h34 h35 h36 h37 h38 h39 h40 h41 h42 h43 h44 h45 h46 h47 h48 h49 h50 h51 h52 h53 h54 h55 h56 h57 h58 h59 h60

set_option maxRecDepth 100000 in
set_option maxHeartbeats 4000000 in
theorem run_ptSame (p : Pt) (w : World) : Sem.run Tryz.prog (binOp .neq 78 (.agg (cellsT p)) (.agg (cellsT p))) w = .ok (.bool false) w := by
  unfold cellsT
  go_simp
set_option maxRecDepth 100000 in
set_option maxHeartbeats 4000000 in
theorem run_ptNeq (p q : Pt) (w : World) : Sem.run Tryz.prog (binOp .neq 78 (.agg (cellsT p)) (.agg (cellsT q))) w = .ok (.bool (!decide (p = q))) w := by
  by_cases hpq : p = q
  · subst hpq
    rw [run_ptSame p w]
    simp
  · rw [decide_eq_false hpq]
    unfold cellsT
    go_simp
    intro h0 h1 h2 h3 h4 h5 h6 h7 h8 h9 h10 h11 h12 h13 h14 h15 h16 h17 h18 h19 h20 h21 h22 h23 h24 h25 h26 h27 h28 h29 h30 h31 h32 h33 h34 h35 h36 h37 h38 h39 h40 h41 h42 h43 h44 h45 h46 h47 h48 h49 h50 h51 h52 h53 h54 h55 h56 h57 h58 h59 h60
    exact absurd (pt_ext p q h0 h1 h2 h3 h4 h5 h6 h7 h8 h9 h10 h11 h12 h13 h14 h15 h16 h17 h18 h19 h20 h21 h22 h23 h24 h25 h26 h27 h28 h29 h30 h31 h32 h33 h34 h35 h36 h37 h38 h39 h40 h41 h42 h43 h44 h45 h46 h47 h48 h49 h50 h51 h52 h53 h54 h55 h56 h57 h58 h59 h60) hpq
end Go.Proofs.YtldobcfejldbiaaGreatDoor

namespace Go.Proofs.YtldobcfejldbiaaGreatDoor
set_option linter.unusedVariables false
set_option linter.unusedSimpArgs false
open Go.RowKit Vm Rm Bm Im

theorem loadMidP {w : World} {g o : Nat} {p : Pt} (h : w.rangeAt g o (cellsT p).toList) : (Instr.loadAt 78 (.pointer (some ⟨g, o, none⟩))).run Tryz.prog w = .ok (.agg (cellsT p)) w := by
  have := run_loadAt_mid w g o 78 (cellsT p).toList _ h (Tryz.underlying78) rfl (by rw [cellsT_len]; exact infoSP)
  rwa [Array.toArray_toList] at this
theorem range_drawn {w : World} {g o : Nat} {cs : List Value} (h : w.rangeAt g o cs) : w.drew.rangeAt g o cs := h
def EqInv (l l' : List Pt) (n : Nat) (w : World) (v : Value) (wr : World) : Prop :=
  ∃ k : Nat, k ≤ n ∧ v = .int .i64 (k : Nat) ∧ l.take k = l'.take k ∧ Below w.heap.size w wr

set_option maxRecDepth 20000 in
set_option maxHeartbeats 2000000 in
theorem equal_w (a a' : Option Addr) (cap cap' : Nat) (l l' : List Pt) (n : Nat) (R : Bool) (w : World) (h : PRow w a l) (h' : PRow w a' l') (hn : l.length = n) (hn' : l'.length = n) (hl : n ≤ 1000) (hR : Hid (decide (l = l') = R)) :
    Calls Tryz.prog 119 #[.slice a n cap, .slice a' n cap'] w fun e w' => e = .returned (.bool R) ∧ Below w.heap.size w w' := by
  have HA := Lib.hid h
  have HA' := Lib.hid h'
  have HN := Lib.hid hn
  have HN' := Lib.hid hn'
  clear h h' hn hn'
  go_enter Tryz.func119, Tryz.ntmps119
  go_wp2_with fail
  go_loopw [13] (fun v wr => EqInv l l' n w v wr) (fun v _ => n - (intOf v).toNat)
  case atStart => exact ⟨0, Nat.zero_le _, rfl, rfl, Below.refl _ _⟩
  case round =>
    obtain ⟨k, hk, rfl, hno, hG⟩ := hrel
    by_cases hkl : k < n
    · obtain ⟨p, hx⟩ := at_some (l := l) (k := k) (by rw [HN.out]; exact hkl)
      obtain ⟨p', hx'⟩ := at_some (l := l') (k := k) (by rw [HN'.out]; exact hkl)
      obtain ⟨g, o, rfl, hgr, hcs⟩ := (HA.out.next hG).at_ k _ hx
      obtain ⟨g', o', rfl, hgr', hcs'⟩ := (HA'.out.next hG).at_ k _ hx'
      have HNO := Lib.hid hno
      have HX := Lib.hid hx
      have HX' := Lib.hid hx'
      have HGG := Lib.hid hG
      have hki : (k : Int) < n := by omega
      have hk0 : (0 : Int) ≤ k := by omega
      clear hno hx hG hx'
      obtain ⟨D, hD⟩ : ∃ D, decide (p = p') = D := ⟨_, rfl⟩
      have hq := run_ptNeq p p'
      rw [hD] at hq
      have HD := Lib.hid hD
      clear hD
      go_upto_region 6 with (fail)
      refine wp_region_held_drew (S := fun V => V.rangeAt g (o + k * 61) (cellsT p).toList ∧ V.rangeAt g' (o' + k * 61) (cellsT p').toList) (by kernel_rfl) ⟨range_drawn hcs, range_drawn hcs'⟩ (fun hHeld => ?_)
      try simp only [Act.put]
      refine wpAnyH_take (i := 0) (v := .slice (some ⟨g, o, none⟩) n cap) rfl (by kernel_rfl) (by kernel_rfl) (by kernel_rfl) (fun _ _ _ h => h) (yieldsIf_move (by rfl) _ rfl _ rfl) hHeld ?_
      try simp only [Act.put, List.getElem_toArray, List.getElem_cons_succ, List.getElem_cons_zero, List.setIfInBounds_toArray, List.set_cons_zero, List.set_cons_succ]
      refine wpAnyH_take (i := 1) (v := .int .i64 ((k : Nat) : Int)) rfl (by kernel_rfl) (by kernel_rfl) (by kernel_rfl) (fun _ _ _ h => h) (yieldsIf_move (by rfl) _ rfl _ rfl) hHeld ?_
      try simp only [Act.put, List.getElem_toArray, List.getElem_cons_succ, List.getElem_cons_zero, List.setIfInBounds_toArray, List.set_cons_zero, List.set_cons_succ]
      refine wpAnyH_take (i := 2) (v := .pointer (some ⟨g, o + k * 61, none⟩)) rfl (by kernel_rfl) (by kernel_rfl) (by kernel_rfl) (fun _ _ _ h => h) (Or.inl ⟨by rfl, fun V h => by go_simp⟩) hHeld ?_
      try simp only [Act.put, List.getElem_toArray, List.getElem_cons_succ, List.getElem_cons_zero, List.setIfInBounds_toArray, List.set_cons_zero, List.set_cons_succ]
      refine wpAnyH_take (i := 3) (v := .agg (cellsT p)) rfl (by kernel_rfl) (by kernel_rfl) (by kernel_rfl) (fun _ _ _ h => h) (yieldsIf_run (by rfl) 78 _ rfl ⟨g, o + k * 61, none⟩ rfl _ (fun V h => loadMidP h.1)) hHeld ?_
      try simp only [Act.put, List.getElem_toArray, List.getElem_cons_succ, List.getElem_cons_zero, List.setIfInBounds_toArray, List.set_cons_zero, List.set_cons_succ]
      refine wpAnyH_take (i := 4) (v := .slice (some ⟨g', o', none⟩) n cap') rfl (by kernel_rfl) (by kernel_rfl) (by kernel_rfl) (fun _ _ _ h => h) (yieldsIf_move (by rfl) _ rfl _ rfl) hHeld ?_
      try simp only [Act.put, List.getElem_toArray, List.getElem_cons_succ, List.getElem_cons_zero, List.setIfInBounds_toArray, List.set_cons_zero, List.set_cons_succ]
      refine wpAnyH_take (i := 5) (v := .int .i64 ((k : Nat) : Int)) rfl (by kernel_rfl) (by kernel_rfl) (by kernel_rfl) (fun _ _ _ h => h) (yieldsIf_move (by rfl) _ rfl _ rfl) hHeld ?_
      try simp only [Act.put, List.getElem_toArray, List.getElem_cons_succ, List.getElem_cons_zero, List.setIfInBounds_toArray, List.set_cons_zero, List.set_cons_succ]
      refine wpAnyH_take (i := 6) (v := .pointer (some ⟨g', o' + k * 61, none⟩)) rfl (by kernel_rfl) (by kernel_rfl) (by kernel_rfl) (fun _ _ _ h => h) (Or.inl ⟨by rfl, fun V h => by go_simp⟩) hHeld ?_
      try simp only [Act.put, List.getElem_toArray, List.getElem_cons_succ, List.getElem_cons_zero, List.setIfInBounds_toArray, List.set_cons_zero, List.set_cons_succ]
      refine wpAnyH_take (i := 7) (v := .agg (cellsT p')) rfl (by kernel_rfl) (by kernel_rfl) (by kernel_rfl) (fun _ _ _ h => h) (yieldsIf_run (by rfl) 78 _ rfl ⟨g', o' + k * 61, none⟩ rfl _ (fun V h => loadMidP h.2)) hHeld ?_
      try simp only [Act.put, List.getElem_toArray, List.getElem_cons_succ, List.getElem_cons_zero, List.setIfInBounds_toArray, List.set_cons_zero, List.set_cons_succ]
      refine wpAnyH_take (i := 8) (v := .bool (!D)) rfl (by kernel_rfl) (by kernel_rfl) (by kernel_rfl) (fun _ _ _ h => h) (Or.inl ⟨by rfl, fun V h => by have h1 := hq V; go_simp⟩) hHeld ?_
      try simp only [Act.put, List.getElem_toArray, List.getElem_cons_succ, List.getElem_cons_zero, List.setIfInBounds_toArray, List.set_cons_zero, List.set_cons_succ]
      refine wpAnyH_done (by kernel_rfl) ?_ _
      clear hHeld hq hcs hcs'
      have HU := Lib.hid HGG.out.drew
      cases D with
      | false =>
        have hy : R = false := by
          rw [← hR.out]
          refine decide_eq_false fun e => ?_
          subst e
          have h1 := HX.out.symm.trans HX'.out
          have h2 := of_decide_eq_false HD.out
          exact h2 (Option.some.inj h1)
        go_wp2
        go_ret
        exact ⟨by rw [hy]; rfl, HU.out⟩
      | true =>
        go_wp2_with fail
        refine ⟨⟨k + 1, by omega, by go_num, ?_, HU.out⟩, by simp [intOf]; omega⟩
        rw [take_nextP HX.out, take_nextP HX'.out, HNO.out, of_decide_eq_true HD.out]
    · obtain rfl : k = n := by omega
      have hy : R = true := by
        rw [← hR.out]
        rw [take_allP HN.out, take_allP HN'.out] at hno
        exact decide_eq_true hno
      go_wp2
      go_ret
      exact ⟨by rw [hy]; rfl, hG⟩
end Go.Proofs.YtldobcfejldbiaaGreatDoor

namespace Go.Proofs.YtldobcfejldbiaaGreatDoor
set_option linter.unusedVariables false
set_option linter.unusedSimpArgs false
open Go.RowKit Vm Rm Bm Im

set_option maxRecDepth 100000 in
/-- A port into the midst of a row. -/
theorem wpList_midst {ops : Array Oper} {rest : List Oper} {op : Oper} {a : Act} {w : World} {Q : Exit → Act → World → Prop} (hgd : op.guard = none) (x y : Operand) (ho : op.op = .store 78 x y)
    (b o : Nat) (hx : a.eval x = .pointer (some ⟨b, o, none⟩)) (p : Pt) (hy : a.eval y = .agg (cellsT p)) (ht : w.there b o 61)
    (h : wpList Tryz.prog ops Q rest (a.put op.dst undef) (w.setCells b o (cellsT p).toList)) : wpList Tryz.prog ops Q (op :: rest) a w :=
  wpList_store_mid hgd 78 x y ho b o (cellsT p) hx hy ht infoSP (cellsT_one p) h
theorem modify_set {l : List Pt} {k : Nat} {p : Pt} {f : Pt → Pt} (h : l[k]? = some p) : l.modify k f = l.set k (f p) := by
  have hk := (List.getElem?_eq_some_iff.1 h).1
  apply List.ext_getElem?
  intro i
  rw [List.getElem?_modify]
  by_cases hi : k = i
  · subst hi
    rw [List.getElem?_set_self hk, h]
    simp
  · rw [List.getElem?_set_ne hi]
    simp [hi]
def PsInv (t : Tm) (l : List Pt) (n g : Nat) (W : World) (v : Value) (wr : World) : Prop :=
  ∃ k : Nat, k ≤ n ∧ v = .int .i64 (k : Nat) ∧ WRow wr g (passN t l k) ∧ Kp g W wr
theorem BrBlk.kp {w w1 : World} {b g : Nat} {i a m h d : Int} (H : BrBlk w b i a m h d) (k : Kp g w w1) (hne : b ≠ g) : BrBlk w1 b i a m h d := (k.block b H.lt hne).trans H

set_option maxRecDepth 20000 in
set_option maxHeartbeats 2000000 in
theorem pass_w (i : Int) (t : Tm) (ad : Option Addr) (cap : Nat) (l L : List Pt) (B : Bool) (w : World) (hr : PRow w ad l) (hl : l.length ≤ 1000) (hX : passP t l = (L, B)) :
    Calls Tryz.prog 113 #[brv i t.age t.max t.hello t.delay, .slice ad l.length cap] w fun e w' => Out w w' l.length L B e := by
  have K0 := Lib.hid (show BrBlk (w.alloc (.cells (bcl i t.age t.max t.hello t.delay) 26)) w.heap.size i t.age t.max t.hello t.delay from heap_alloc_new w _)
  have B0 := Lib.hid (below_box w (.cells (bcl i t.age t.max t.hello t.delay) 26))
  have CC := Lib.hid (clone_w ad cap l _ (hr.next B0.out) hl)
  obtain ⟨n, hn⟩ : ∃ n, l.length = n := ⟨_, rfl⟩
  have HR := Lib.hid hr
  have HN := Lib.hid hn
  rw [hn] at CC hl ⊢
  have hL : passN t l n = L := by
    have := congrArg Prod.fst hX
    rw [← hn]; exact this
  have hB : (!decide (passN t l n = l)) = B := by
    have := congrArg Prod.snd hX
    rw [← hn]; exact this
  have HL := Lib.hid hL
  have CE := Lib.hid (fun w' (a' : Option Addr) (cap' : Nat) (h : PRow w' ad l) (h' : PRow w' a' (passN t l n)) => equal_w ad a' cap cap' l (passN t l n) n (!B) w' h h' hn ((passN_len t l n).trans hn) hl (Lib.hid (by rw [← hB, Bool.not_not]; exact decide_eq_decide.2 ⟨fun e => e.symm, fun e => e.symm⟩)))
  have CS := Lib.hid (fun w' (p : Pt) => state_w p _ w' (Lib.hid rfl))
  have CM := Lib.hid (fun w' (g cap' k : Nat) (h : WRow w' g (passN t l k)) (hk : k < n) => show Calls Tryz.prog 153 #[brv i t.age t.max t.hello t.delay, .slice (some ⟨g, 0, none⟩) n cap', .int .i64 ((k : Nat) : Int)] w' (fun e w'' => e = .returned (.bool (moveP t (passN t l k) k).2) ∧ WRow w'' g (moveP t (passN t l k) k).1 ∧ Kp g w' w'') from by
    have e := (passN_len t l k).trans hn
    have := moveIn_w i t g cap' k (passN t l k) (moveP t (passN t l k) k).1 (moveP t (passN t l k) k).2 w' h (by omega) (by omega) rfl
    rwa [e] at this)
  clear hr hn hX hL hB
  unfold brv at *
  unfold bcl at *
  go_enter Tryz.func113, Tryz.ntmps113
  go_wp2_with fail
  (with_reducible refine CC.out.mono ?_)
  rintro e W ⟨a', cap', rfl, hcap, hown, hb1⟩
  have BW := Lib.hid (bw_trans B0.out hb1)
  have K1 := Lib.hid (K0.out.next hb1)
  have hK1l := K0.out.lt
  rw [size_box] at hK1l
  rcases hown with ⟨rfl, hl0⟩ | ⟨g, rfl, hgB, hW⟩
  · have hn0 : n = 0 := by rw [← HN.out, hl0]; rfl
    subst hn0
    clear K0 B0 CC hb1 hK1l CS CM
    go_wp2_with fail
    go_loopw [12] (fun v wr => v = .int .i64 0 ∧ Below W.heap.size W wr) (fun v _ => 0)
    case atStart => exact ⟨rfl, Below.refl _ _⟩
    case round =>
      obtain ⟨rfl, hG⟩ := hrel
      have HG := Lib.hid (bw_trans BW.out hG)
      have hp0 : passN t l 0 = l := rfl
      have HE := Lib.hid (CE.out wr none cap' (HR.out.next HG.out) (by rw [hp0, hl0]; exact prow_nil _ _))
      clear hG CE
      go_wp2_with (go_at_call 119; (with_reducible refine HE.out.mono ?_); rintro e w3 ⟨rfl, hb3⟩)
      go_ret2
      exact ⟨none, cap', rfl, hcap, by rw [← HL.out, hp0, hl0]; exact prow_nil _ _, bw_trans HG.out hb3⟩
  · have HWR := Lib.hid hW
    have hgw : w.heap.size < g := by rw [size_box] at hgB; omega
    clear K0 B0 CC hb1 hK1l hgB hW
    go_wp2_with fail
    go_loopw [12] (fun v wr => PsInv t l n g W v wr) (fun v _ => n - (intOf v).toNat)
    case atStart => exact ⟨0, Nat.zero_le _, rfl, HWR.out, Kp.refl' g W⟩
    case round =>
      obtain ⟨k, hk, rfl, hw, hK⟩ := hrel
      have HW := Lib.hid hw
      have HK := Lib.hid hK
      have hne : w.heap.size ≠ g := by omega
      obtain ⟨k0, k1, k2, k3, k4⟩ := (K1.out.kp hK hne).cells
      have HBl := Lib.hid (hK.below BW.out (by omega) BW.out.size)
      clear hw hK
      by_cases hkl : k < n
      · have hki : (k : Int) < n := by omega
        have hk0 : (0 : Int) ≤ k := by omega
        have HM := Lib.hid (CM.out wr g cap' k HW.out hkl)
        have hlen : (moveP t (passN t l k) k).1.length = n := by rw [moveP_len, passN_len]; exact HN.out
        obtain ⟨p, hp⟩ := at_some (l := (moveP t (passN t l k) k).1) (k := k) (by rw [hlen]; exact hkl)
        have hst : passN t l (k + 1) = (moveP t (passN t l k) k).1.set k (stateP p) := modify_set hp
        obtain ⟨M, hM⟩ : ∃ M, (moveP t (passN t l k) k).1 = M := ⟨_, rfl⟩
        obtain ⟨Y, hY⟩ : ∃ Y, stateP p = Y := ⟨_, rfl⟩
        have HS := Lib.hid (fun w' => hY ▸ CS.out w' p)
        rw [hM] at hst hp hlen HM
        rw [hY] at hst
        have HP := Lib.hid hp
        have HST := Lib.hid hst
        have HLN := Lib.hid hlen
        clear hst hp hlen hM hY CS CM CE
        go_wp2_with fail
        (with_reducible refine HM.out.mono ?_)
        rintro e w1 ⟨rfl, hw1, hk1⟩
        have HW1 := Lib.hid hw1
        have HK1 := Lib.hid hk1
        clear hw1 hk1 HM
        have hmid : w1.rangeAt g (k * 61) (cellsT p).toList := HW1.out.at_ k p HP.out
        go_wp2_with (first
          | (with_reducible refine wpList_mid rfl _ rfl _ _ rfl p hmid ?_)
          | (go_at_call 154; (with_reducible refine (HS.out _).mono ?_); rintro e w2 ⟨rfl, hb2⟩; have HW2 := Lib.hid (HW1.out.next hb2); have HK2 := Lib.hid (HK1.out.grow hb2); clear hb2 hmid; have hth := HW2.out.at61 (k := k) (by rw [HLN.out]; exact hkl))
          | (with_reducible refine wpList_midst rfl _ _ rfl g (k * 61) rfl Y rfl hth ?_))
        have WZ := HW2.out.set (by rw [HLN.out]; exact hkl) Y
        rw [← HST.out] at WZ
        have KZ := kp_setCells (cellsT Y).toList (k * 61) _ (HK.out.trans' HK2.out)
        exact ⟨⟨k + 1, by omega, by go_num, WZ, KZ⟩, by simp [intOf]; omega⟩
      · obtain rfl : k = n := by omega
        have HE := Lib.hid (CE.out wr (some ⟨g, 0, none⟩) cap' (HR.out.next HBl.out) HW.out.row)
        clear CE CS CM
        go_wp2_with (go_at_call 119; (with_reducible refine HE.out.mono ?_); rintro e w3 ⟨rfl, hb3⟩)
        go_ret2
        exact ⟨_, cap', rfl, hcap, by rw [← HL.out]; exact (HW.out.next hb3).row, bw_trans HBl.out hb3⟩

end Go.Proofs.YtldobcfejldbiaaGreatDoor
