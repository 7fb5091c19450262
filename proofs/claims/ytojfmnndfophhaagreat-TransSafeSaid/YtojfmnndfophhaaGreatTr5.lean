/-
  Layer 12: State; Move.
  Layer 12: ports compared; slices.Equal of ports.
  Layer 12: slices.Equal of ports; Move.
-/
import Derived.Test.YtojfmnndfophhaaGreatTr4
import Derived.Deep.MidRow
namespace Go.Proofs.YtojfmnndfophhaaGreat
set_option linter.unusedVariables false
set_option linter.unusedSimpArgs false
open Go.RowKit Vm Rm Bm Im

/-- A port's block turned into Y, behind a world V; its copy's block is as it was. -/
theorem state_end (p Y : Pt) (nb : Nat) (w V : World) (K : PtBlk 34 V (nb + 1) zeroP) (hB : Below nb w V) : PtBlk 34 (V.setRow (nb + 1) (cellsT Y)) (nb + 1) Y ∧ Below nb w (V.setRow (nb + 1) (cellsT Y)) :=
  ⟨K.row Y, below_row hB (by omega) (cellsT Y)⟩

set_option maxRecDepth 20000 in
set_option maxHeartbeats 2000000 in
theorem state_w (p X : Pt) (w : World) (hX : Hid (stateP p = X)) :
    Calls Tryz.prog 10 #[.agg (cellsT p)] w fun e w' => e = .returned (.agg (cellsT X)) ∧ Below w.heap.size w w' := by
  obtain ⟨W, nb, HW, HN, k0, k1, kB⟩ := twoP_is 34 w p
  have K0 := Lib.hid k0
  have K1 := Lib.hid k1
  have KB := Lib.hid kB
  have f := k0.free
  have c_1 := k0.c_learn
  have c_2 := k0.c_learning
  have c_3 := k0.c_forward
  have c_4 := k0.c_forwarding
  have hne : nb + 1 ≠ nb := by omega
  clear k0 k1 kB
  by_cases h1 : p.learn = false
  · have HX := Lib.hid (show ({ p with learning := false, forwarding := false } : Pt) = X by rw [← hX.out]; unfold stateP; rw [if_pos h1])
    rw [h1] at c_1
    clear hX h1
    obtain ⟨V, hV⟩ : ∃ V, (W.setCell ⟨nb, 28, none⟩ (.bool false)).setCell ⟨nb, 30, none⟩ (.bool false) = V := ⟨_, rfl⟩
    have KV := Lib.hid (show PtBlk 34 V nb X from by rw [← hV, ← HX.out]; exact (K0.out.s_learning false).s_forwarding false)
    have KZ := Lib.hid (show PtBlk 34 V (nb + 1) zeroP from by rw [← hV]; exact (K1.out.far 28 _ hne).far 30 _ hne)
    have BV := Lib.hid (show Below nb w V from by rw [← hV]; exact (KB.out.setCell (Nat.le_refl _) _).setCell (Nat.le_refl _) _)
    have HV := Lib.hid hV
    clear hV HX
    go_enter Tryz.func10, Tryz.ntmps10
    go_upto_region 1 with (fail)
    refine wp_to (W := W) (by exact HW.out.symm) ?_
    rw [HN.out]
    go_upto_region 3 with (fail)
    refine wp_to (W := V) (by exact HV.out.symm) ?_
    go_wp2_with (first
      | (with_reducible refine wpList_pt rfl _ rfl _ rfl X KV.out ?_)
      | (with_reducible refine wpList_ptst rfl _ _ rfl _ rfl X zeroP rfl KZ.out ?_))
    have E := state_end p X nb w V KZ.out BV.out
    exact bodyPost_ret (v := .agg (cellsT X)) (results_cell_row rfl _ _ (nb + 1) 34 (cellsT X) (0, 0) _ rfl E.1 rfl rfl infoSP) rfl ⟨rfl, HN.out ▸ E.2⟩
  · have h1' : p.learn = true := by cases hl : p.learn; exact absurd hl h1; rfl
    rw [h1'] at c_1
    obtain ⟨F, hF⟩ : ∃ F, (p.forwarding && p.forward) = F := ⟨_, rfl⟩
    by_cases h2 : p.learning = false
    · have HX := Lib.hid (show ({ p with forwarding := F, learning := true } : Pt) = X by rw [← hX.out]; unfold stateP; rw [if_neg h1, if_pos h2, hF])
      rw [h2] at c_2
      clear hX h1 h1' h2
      obtain ⟨V, hV⟩ : ∃ V, (W.setCell ⟨nb, 30, none⟩ (.bool F)).setCell ⟨nb, 28, none⟩ (.bool true) = V := ⟨_, rfl⟩
      have KV := Lib.hid (show PtBlk 34 V nb X from by rw [← hV, ← HX.out]; exact (K0.out.s_forwarding F).s_learning true)
      have KZ := Lib.hid (show PtBlk 34 V (nb + 1) zeroP from by rw [← hV]; exact (K1.out.far 30 _ hne).far 28 _ hne)
      have BV := Lib.hid (show Below nb w V from by rw [← hV]; exact (KB.out.setCell (Nat.le_refl _) _).setCell (Nat.le_refl _) _)
      have HV := Lib.hid hV
      clear hV HX
      obtain ⟨a, ha⟩ : ∃ a, p.forwarding = a := ⟨_, rfl⟩
      rw [ha] at c_4 hF
      clear ha
      cases a with
      | false =>
        obtain rfl : F = false := by rw [← hF]; rfl
        clear hF
        go_enter Tryz.func10, Tryz.ntmps10
        go_upto_region 1 with (fail)
        refine wp_to (W := W) (by exact HW.out.symm) ?_
        rw [HN.out]
        go_upto_region 7 with (fail)
        refine wp_to (W := V) (by exact HV.out.symm) ?_
        go_wp2_with (first
          | (with_reducible refine wpList_pt rfl _ rfl _ rfl X KV.out ?_)
          | (with_reducible refine wpList_ptst rfl _ _ rfl _ rfl X zeroP rfl KZ.out ?_))
        have E := state_end p X nb w V KZ.out BV.out
        exact bodyPost_ret (v := .agg (cellsT X)) (results_cell_row rfl _ _ (nb + 1) 34 (cellsT X) (0, 0) _ rfl E.1 rfl rfl infoSP) rfl ⟨rfl, HN.out ▸ E.2⟩
      | true =>
        obtain rfl : F = p.forward := by rw [← hF]; rfl
        clear hF
        go_enter Tryz.func10, Tryz.ntmps10
        go_upto_region 1 with (fail)
        refine wp_to (W := W) (by exact HW.out.symm) ?_
        rw [HN.out]
        go_upto_region 7 with (fail)
        refine wp_to (W := V) (by exact HV.out.symm) ?_
        go_wp2_with (first
          | (with_reducible refine wpList_pt rfl _ rfl _ rfl X KV.out ?_)
          | (with_reducible refine wpList_ptst rfl _ _ rfl _ rfl X zeroP rfl KZ.out ?_))
        have E := state_end p X nb w V KZ.out BV.out
        exact bodyPost_ret (v := .agg (cellsT X)) (results_cell_row rfl _ _ (nb + 1) 34 (cellsT X) (0, 0) _ rfl E.1 rfl rfl infoSP) rfl ⟨rfl, HN.out ▸ E.2⟩
    · have h2' : p.learning = true := by cases hl : p.learning; exact absurd hl h2; rfl
      have HX := Lib.hid (show ({ p with forwarding := p.forward } : Pt) = X by rw [← hX.out]; unfold stateP; rw [if_neg h1, if_neg h2])
      rw [h2'] at c_2
      clear hX h1 h1' h2 h2'
      obtain ⟨V, hV⟩ : ∃ V, (W.setCell ⟨nb, 30, none⟩ (.bool F)).setCell ⟨nb, 30, none⟩ (.bool p.forward) = V := ⟨_, rfl⟩
      have KV := Lib.hid (show PtBlk 34 V nb X from by rw [← hV, ← HX.out]; exact (K0.out.s_forwarding F).s_forwarding p.forward)
      have KZ := Lib.hid (show PtBlk 34 V (nb + 1) zeroP from by rw [← hV]; exact (K1.out.far 30 _ hne).far 30 _ hne)
      have BV := Lib.hid (show Below nb w V from by rw [← hV]; exact (KB.out.setCell (Nat.le_refl _) _).setCell (Nat.le_refl _) _)
      have HV := Lib.hid hV
      clear hV HX
      obtain ⟨a, ha⟩ : ∃ a, p.forwarding = a := ⟨_, rfl⟩
      rw [ha] at c_4 hF
      clear ha
      cases a with
      | false =>
        obtain rfl : F = false := by rw [← hF]; rfl
        clear hF
        go_enter Tryz.func10, Tryz.ntmps10
        go_upto_region 1 with (fail)
        refine wp_to (W := W) (by exact HW.out.symm) ?_
        rw [HN.out]
        go_upto_region 9 with (fail)
        refine wp_to (W := V) (by exact HV.out.symm) ?_
        go_wp2_with (first
          | (with_reducible refine wpList_pt rfl _ rfl _ rfl X KV.out ?_)
          | (with_reducible refine wpList_ptst rfl _ _ rfl _ rfl X zeroP rfl KZ.out ?_))
        have E := state_end p X nb w V KZ.out BV.out
        exact bodyPost_ret (v := .agg (cellsT X)) (results_cell_row rfl _ _ (nb + 1) 34 (cellsT X) (0, 0) _ rfl E.1 rfl rfl infoSP) rfl ⟨rfl, HN.out ▸ E.2⟩
      | true =>
        obtain rfl : F = p.forward := by rw [← hF]; rfl
        clear hF
        go_enter Tryz.func10, Tryz.ntmps10
        go_upto_region 1 with (fail)
        refine wp_to (W := W) (by exact HW.out.symm) ?_
        rw [HN.out]
        go_upto_region 9 with (fail)
        refine wp_to (W := V) (by exact HV.out.symm) ?_
        go_wp2_with (first
          | (with_reducible refine wpList_pt rfl _ rfl _ rfl X KV.out ?_)
          | (with_reducible refine wpList_ptst rfl _ _ rfl _ rfl X zeroP rfl KZ.out ?_))
        have E := state_end p X nb w V KZ.out BV.out
        exact bodyPost_ret (v := .agg (cellsT X)) (results_cell_row rfl _ _ (nb + 1) 34 (cellsT X) (0, 0) _ rfl E.1 rfl rfl infoSP) rfl ⟨rfl, HN.out ▸ E.2⟩
end Go.Proofs.YtojfmnndfophhaaGreat

namespace Go.Proofs.YtojfmnndfophhaaGreat
set_option linter.unusedVariables false
set_option linter.unusedSimpArgs false
open Go.RowKit Vm Rm Bm Im

theorem ifs {α : Type} {c : Prop} {I : Decidable c} {X Y : α} (h : c → X = Y) : @ite α c I X Y = Y := by
  split
  · rename_i hc; exact h hc
  · rfl
theorem vc_ext {a b : Vc} (h0 : a.root = b.root) (h1 : a.cost = b.cost) (h2 : a.bridge = b.bridge) (h3 : a.port = b.port) : a = b := by
  cases a; cases b; dsimp only at h0 h1 h2 h3; subst h0 h1 h2 h3; rfl
theorem tm_ext {a b : Tm} (h0 : a.age = b.age) (h1 : a.max = b.max) (h2 : a.hello = b.hello) (h3 : a.delay = b.delay) : a = b := by
  cases a; cases b; dsimp only at h0 h1 h2 h3; subst h0 h1 h2 h3; rfl
theorem pt_ext0 {p q : Pt} (h_id : p.id = q.id) (h_cost : p.cost = q.cost) (h_on : p.on = q.on) (h_admin : p.admin = q.admin) (h_oper : p.oper = q.oper) (h_source : p.source = q.source) (h_vec : p.vec = q.vec) (h_times : p.times = q.times) (h_offer : p.offer = q.offer) (h_given : p.given = q.given) (h_role : p.role = q.role) (h_selected : p.selected = q.selected) (h_ready : p.ready = q.ready) (h_update : p.update = q.update) (h_reselect : p.reselect = q.reselect) (h_learn : p.learn = q.learn) (h_learning : p.learning = q.learning) (h_forward : p.forward = q.forward) (h_forwarding : p.forwarding = q.forwarding) (h_agree : p.agree = q.agree) (h_agreed : p.agreed = q.agreed) (h_proposed : p.proposed = q.proposed) (h_proposing : p.proposing = q.proposing) (h_sync : p.sync = q.sync) (h_synced : p.synced = q.synced) (h_reroot : p.reroot = q.reroot) (h_disputed : p.disputed = q.disputed) (h_newInfo : p.newInfo = q.newInfo) (h_heardTc : p.heardTc = q.heardTc) (h_heardTcn : p.heardTcn = q.heardTcn) (h_heardAck : p.heardAck = q.heardAck) (h_tcAck : p.tcAck = q.tcAck) (h_tcProp : p.tcProp = q.tcProp) (h_flush : p.flush = q.flush) (h_sendRstp : p.sendRstp = q.sendRstp) (h_heardRstp : p.heardRstp = q.heardRstp) (h_heardStp : p.heardStp = q.heardStp) (h_check : p.check = q.check) (h_fd : p.fd = q.fd) (h_rr : p.rr = q.rr) (h_rb : p.rb = q.rb) (h_tc : p.tc = q.tc) (h_edge : p.edge = q.edge) (h_md : p.md = q.md) (h_info : p.info = q.info) (h_hello : p.hello = q.hello) (h_txCount : p.txCount = q.txCount) (h_change : p.change = q.change) (h_migrate : p.migrate = q.migrate) : p = q := by
  cases p; cases q; dsimp only at h_id h_cost h_on h_admin h_oper h_source h_vec h_times h_offer h_given h_role h_selected h_ready h_update h_reselect h_learn h_learning h_forward h_forwarding h_agree h_agreed h_proposed h_proposing h_sync h_synced h_reroot h_disputed h_newInfo h_heardTc h_heardTcn h_heardAck h_tcAck h_tcProp h_flush h_sendRstp h_heardRstp h_heardStp h_check h_fd h_rr h_rb h_tc h_edge h_md h_info h_hello h_txCount h_change h_migrate; subst h_id h_cost h_on h_admin h_oper h_source h_vec h_times h_offer h_given h_role h_selected h_ready h_update h_reselect h_learn h_learning h_forward h_forwarding h_agree h_agreed h_proposed h_proposing h_sync h_synced h_reroot h_disputed h_newInfo h_heardTc h_heardTcn h_heardAck h_tcAck h_tcProp h_flush h_sendRstp h_heardRstp h_heardStp h_check h_fd h_rr h_rb h_tc h_edge h_md h_info h_hello h_txCount h_change h_migrate; rfl
theorem pt_ext (p q : Pt) (h0 : p.id = q.id) (h1 : p.cost = q.cost) (h2 : p.on = q.on) (h3 : p.admin = q.admin) (h4 : p.oper = q.oper) (h5 : p.source = q.source) (h6 : p.vec.root = q.vec.root) (h7 : p.vec.cost = q.vec.cost) (h8 : p.vec.bridge = q.vec.bridge) (h9 : p.vec.port = q.vec.port) (h10 : p.times.age = q.times.age) (h11 : p.times.max = q.times.max) (h12 : p.times.hello = q.times.hello) (h13 : p.times.delay = q.times.delay) (h14 : p.offer.root = q.offer.root) (h15 : p.offer.cost = q.offer.cost) (h16 : p.offer.bridge = q.offer.bridge) (h17 : p.offer.port = q.offer.port) (h18 : p.given.age = q.given.age) (h19 : p.given.max = q.given.max) (h20 : p.given.hello = q.given.hello) (h21 : p.given.delay = q.given.delay) (h22 : p.role = q.role) (h23 : p.selected = q.selected) (h24 : p.ready = q.ready) (h25 : p.update = q.update) (h26 : p.reselect = q.reselect) (h27 : p.learn = q.learn) (h28 : p.learning = q.learning) (h29 : p.forward = q.forward) (h30 : p.forwarding = q.forwarding) (h31 : p.agree = q.agree) (h32 : p.agreed = q.agreed) (h33 : p.proposed = q.proposed) (h34 : p.proposing = q.proposing) (h35 : p.sync = q.sync) (h36 : p.synced = q.synced) (h37 : p.reroot = q.reroot) (h38 : p.disputed = q.disputed) (h39 : p.newInfo = q.newInfo) (h40 : p.heardTc = q.heardTc) (h41 : p.heardTcn = q.heardTcn) (h42 : p.heardAck = q.heardAck) (h43 : p.tcAck = q.tcAck) (h44 : p.tcProp = q.tcProp) (h45 : p.flush = q.flush) (h46 : p.sendRstp = q.sendRstp) (h47 : p.heardRstp = q.heardRstp) (h48 : p.heardStp = q.heardStp) (h49 : p.check = q.check) (h50 : p.fd = q.fd) (h51 : p.rr = q.rr) (h52 : p.rb = q.rb) (h53 : p.tc = q.tc) (h54 : p.edge = q.edge) (h55 : p.md = q.md) (h56 : p.info = q.info) (h57 : p.hello = q.hello) (h58 : p.txCount = q.txCount) (h59 : p.change = q.change) (h60 : p.migrate = q.migrate) : p = q := pt_ext0 h0 h1 h2 h3 h4 h5 (vc_ext h6 h7 h8 h9) (tm_ext h10 h11 h12 h13) (vc_ext h14 h15 h16 h17) (tm_ext h18 h19 h20 h21) h22 h23 h24 h25 h26 h27 h28 h29 h30 h31 h32 h33 h34 h35 h36 h37 h38 h39 h40 h41 h42 h43 h44 h45 h46 h47 h48 h49 h50 h51 h52 h53 h54 h55 h56 h57 h58 h59 h60

set_option maxRecDepth 100000 in
set_option maxHeartbeats 4000000 in
theorem run_ptSame (p : Pt) (w : World) : Sem.run Tryz.prog (binOp .neq 34 (.agg (cellsT p)) (.agg (cellsT p))) w = .ok (.bool false) w := by
  unfold cellsT
  go_simp
set_option maxRecDepth 100000 in
set_option maxHeartbeats 4000000 in
theorem run_ptNeq (p q : Pt) (w : World) : Sem.run Tryz.prog (binOp .neq 34 (.agg (cellsT p)) (.agg (cellsT q))) w = .ok (.bool (!decide (p = q))) w := by
  by_cases hpq : p = q
  · subst hpq
    rw [run_ptSame p w]
    simp
  · rw [decide_eq_false hpq]
    unfold cellsT
    go_simp
    intro h0 h1 h2 h3 h4 h5 h6 h7 h8 h9 h10 h11 h12 h13 h14 h15 h16 h17 h18 h19 h20 h21 h22 h23 h24 h25 h26 h27 h28 h29 h30 h31 h32 h33 h34 h35 h36 h37 h38 h39 h40 h41 h42 h43 h44 h45 h46 h47 h48 h49 h50 h51 h52 h53 h54 h55 h56 h57 h58 h59 h60
    exact absurd (pt_ext p q h0 h1 h2 h3 h4 h5 h6 h7 h8 h9 h10 h11 h12 h13 h14 h15 h16 h17 h18 h19 h20 h21 h22 h23 h24 h25 h26 h27 h28 h29 h30 h31 h32 h33 h34 h35 h36 h37 h38 h39 h40 h41 h42 h43 h44 h45 h46 h47 h48 h49 h50 h51 h52 h53 h54 h55 h56 h57 h58 h59 h60) hpq
end Go.Proofs.YtojfmnndfophhaaGreat

namespace Go.Proofs.YtojfmnndfophhaaGreat
set_option linter.unusedVariables false
set_option linter.unusedSimpArgs false
open Go.RowKit Vm Rm Bm Im

theorem loadMidP {w : World} {g o : Nat} {p : Pt} (h : w.rangeAt g o (cellsT p).toList) : (Instr.loadAt 34 (.pointer (some ⟨g, o, none⟩))).run Tryz.prog w = .ok (.agg (cellsT p)) w := by
  have := run_loadAt_mid w g o 34 (cellsT p).toList _ h (Tryz.underlying34) rfl (by rw [cellsT_len]; exact infoSP)
  rwa [Array.toArray_toList] at this
theorem range_drawn {w : World} {g o : Nat} {cs : List Value} (h : w.rangeAt g o cs) : w.drew.rangeAt g o cs := h
def EqInv (l l' : List Pt) (n : Nat) (w : World) (v : Value) (wr : World) : Prop :=
  ∃ k : Nat, k ≤ n ∧ v = .int .i64 (k : Nat) ∧ l.take k = l'.take k ∧ Below w.heap.size w wr

set_option maxRecDepth 20000 in
set_option maxHeartbeats 2000000 in
theorem equal_w (a a' : Option Addr) (cap cap' : Nat) (l l' : List Pt) (n : Nat) (R : Bool) (w : World) (h : PRow w a l) (h' : PRow w a' l') (hn : l.length = n) (hn' : l'.length = n) (hl : n ≤ 1000) (hR : Hid (decide (l = l') = R)) :
    Calls Tryz.prog 13 #[.slice a n cap, .slice a' n cap'] w fun e w' => e = .returned (.bool R) ∧ Below w.heap.size w w' := by
  have HA := Lib.hid h
  have HA' := Lib.hid h'
  have HN := Lib.hid hn
  have HN' := Lib.hid hn'
  clear h h' hn hn'
  go_enter Tryz.func13, Tryz.ntmps13
  go_wp2_with fail
  go_loopw [13] (fun v wr => EqInv l l' n w v wr) (fun v _ => n - (intOf v).toNat)
  case atStart => exact ⟨0, Nat.zero_le _, rfl, rfl, Below.refl _ _⟩
  case round =>
    obtain ⟨k, hk, rfl, hno, hG⟩ := hrel
    by_cases hkl : k < n
    · obtain ⟨p, hx⟩ := at_some (l := l) (k := k) (by rw [HN.out]; exact hkl)
      obtain ⟨p', hx'⟩ := at_some (l := l') (k := k) (by rw [HN'.out]; exact hkl)
      obtain ⟨g, o, rfl, hgr, hcs⟩ := (HA.out.next hG).at_ k _ hx
      obtain ⟨g', o', rfl, hgr', hcs'⟩ := (HA'.out.next hG).at_ k _ hx'
      have HNO := Lib.hid hno
      have HX := Lib.hid hx
      have HX' := Lib.hid hx'
      have HGG := Lib.hid hG
      have hki : (k : Int) < n := by omega
      have hk0 : (0 : Int) ≤ k := by omega
      clear hno hx hG hx'
      obtain ⟨D, hD⟩ : ∃ D, decide (p = p') = D := ⟨_, rfl⟩
      have hq := run_ptNeq p p'
      rw [hD] at hq
      have HD := Lib.hid hD
      clear hD
      go_upto_region 6 with (fail)
      refine wp_region_held_drew (S := fun V => V.rangeAt g (o + k * 61) (cellsT p).toList ∧ V.rangeAt g' (o' + k * 61) (cellsT p').toList) (by kernel_rfl) ⟨range_drawn hcs, range_drawn hcs'⟩ (fun hHeld => ?_)
      try simp only [Act.put]
      refine wpAnyH_take (i := 0) (v := .slice (some ⟨g, o, none⟩) n cap) rfl (by kernel_rfl) (by kernel_rfl) (by kernel_rfl) (fun _ _ _ h => h) (yieldsIf_move (by rfl) _ rfl _ rfl) hHeld ?_
      try simp only [Act.put, List.getElem_toArray, List.getElem_cons_succ, List.getElem_cons_zero, List.setIfInBounds_toArray, List.set_cons_zero, List.set_cons_succ]
      refine wpAnyH_take (i := 1) (v := .int .i64 ((k : Nat) : Int)) rfl (by kernel_rfl) (by kernel_rfl) (by kernel_rfl) (fun _ _ _ h => h) (yieldsIf_move (by rfl) _ rfl _ rfl) hHeld ?_
      try simp only [Act.put, List.getElem_toArray, List.getElem_cons_succ, List.getElem_cons_zero, List.setIfInBounds_toArray, List.set_cons_zero, List.set_cons_succ]
      refine wpAnyH_take (i := 2) (v := .pointer (some ⟨g, o + k * 61, none⟩)) rfl (by kernel_rfl) (by kernel_rfl) (by kernel_rfl) (fun _ _ _ h => h) (Or.inl ⟨by rfl, fun V h => by go_simp⟩) hHeld ?_
      try simp only [Act.put, List.getElem_toArray, List.getElem_cons_succ, List.getElem_cons_zero, List.setIfInBounds_toArray, List.set_cons_zero, List.set_cons_succ]
      refine wpAnyH_take (i := 3) (v := .agg (cellsT p)) rfl (by kernel_rfl) (by kernel_rfl) (by kernel_rfl) (fun _ _ _ h => h) (yieldsIf_run (by rfl) 34 _ rfl ⟨g, o + k * 61, none⟩ rfl _ (fun V h => loadMidP h.1)) hHeld ?_
      try simp only [Act.put, List.getElem_toArray, List.getElem_cons_succ, List.getElem_cons_zero, List.setIfInBounds_toArray, List.set_cons_zero, List.set_cons_succ]
      refine wpAnyH_take (i := 4) (v := .slice (some ⟨g', o', none⟩) n cap') rfl (by kernel_rfl) (by kernel_rfl) (by kernel_rfl) (fun _ _ _ h => h) (yieldsIf_move (by rfl) _ rfl _ rfl) hHeld ?_
      try simp only [Act.put, List.getElem_toArray, List.getElem_cons_succ, List.getElem_cons_zero, List.setIfInBounds_toArray, List.set_cons_zero, List.set_cons_succ]
      refine wpAnyH_take (i := 5) (v := .int .i64 ((k : Nat) : Int)) rfl (by kernel_rfl) (by kernel_rfl) (by kernel_rfl) (fun _ _ _ h => h) (yieldsIf_move (by rfl) _ rfl _ rfl) hHeld ?_
      try simp only [Act.put, List.getElem_toArray, List.getElem_cons_succ, List.getElem_cons_zero, List.setIfInBounds_toArray, List.set_cons_zero, List.set_cons_succ]
      refine wpAnyH_take (i := 6) (v := .pointer (some ⟨g', o' + k * 61, none⟩)) rfl (by kernel_rfl) (by kernel_rfl) (by kernel_rfl) (fun _ _ _ h => h) (Or.inl ⟨by rfl, fun V h => by go_simp⟩) hHeld ?_
      try simp only [Act.put, List.getElem_toArray, List.getElem_cons_succ, List.getElem_cons_zero, List.setIfInBounds_toArray, List.set_cons_zero, List.set_cons_succ]
      refine wpAnyH_take (i := 7) (v := .agg (cellsT p')) rfl (by kernel_rfl) (by kernel_rfl) (by kernel_rfl) (fun _ _ _ h => h) (yieldsIf_run (by rfl) 34 _ rfl ⟨g', o' + k * 61, none⟩ rfl _ (fun V h => loadMidP h.2)) hHeld ?_
      try simp only [Act.put, List.getElem_toArray, List.getElem_cons_succ, List.getElem_cons_zero, List.setIfInBounds_toArray, List.set_cons_zero, List.set_cons_succ]
      refine wpAnyH_take (i := 8) (v := .bool (!D)) rfl (by kernel_rfl) (by kernel_rfl) (by kernel_rfl) (fun _ _ _ h => h) (Or.inl ⟨by rfl, fun V h => by have h1 := hq V; go_simp⟩) hHeld ?_
      try simp only [Act.put, List.getElem_toArray, List.getElem_cons_succ, List.getElem_cons_zero, List.setIfInBounds_toArray, List.set_cons_zero, List.set_cons_succ]
      refine wpAnyH_done (by kernel_rfl) ?_ _
      clear hHeld hq hcs hcs'
      have HU := Lib.hid HGG.out.drew
      cases D with
      | false =>
        have hy : R = false := by
          rw [← hR.out]
          refine decide_eq_false fun e => ?_
          subst e
          have h1 := HX.out.symm.trans HX'.out
          have h2 := of_decide_eq_false HD.out
          exact h2 (Option.some.inj h1)
        go_wp2
        go_ret
        exact ⟨by rw [hy]; rfl, HU.out⟩
      | true =>
        go_wp2_with fail
        refine ⟨⟨k + 1, by omega, by go_num, ?_, HU.out⟩, by simp [intOf]; omega⟩
        rw [take_nextP HX.out, take_nextP HX'.out, HNO.out, of_decide_eq_true HD.out]
    · obtain rfl : k = n := by omega
      have hy : R = true := by
        rw [← hR.out]
        rw [take_allP HN.out, take_allP HN'.out] at hno
        exact decide_eq_true hno
      go_wp2
      go_ret
      exact ⟨by rw [hy]; rfl, hG⟩
end Go.Proofs.YtojfmnndfophhaaGreat
