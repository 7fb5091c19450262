/-
  Layer 12: ports compared; slices.Equal of ports.
-/
import Derived.Test.YtlfmjinllffifaaM6
namespace Go.Proofs.Ytlfmjinllffifaa
set_option linter.unusedVariables false
set_option linter.unusedSimpArgs false
open Go.RowKit Vm Rm Bm Im

theorem ifs {α : Type} {c : Prop} {I : Decidable c} {X Y : α} (h : c → X = Y) : @ite α c I X Y = Y := by
  split
  · rename_i hc; exact h hc
  · rfl
theorem vc_ext {a b : Vc} (h0 : a.root = b.root) (h1 : a.cost = b.cost) (h2 : a.bridge = b.bridge) (h3 : a.port = b.port) : a = b := by
  cases a; cases b; dsimp only at h0 h1 h2 h3; subst h0 h1 h2 h3; rfl
theorem tm_ext {a b : Tm} (h0 : a.age = b.age) (h1 : a.max = b.max) (h2 : a.hello = b.hello) (h3 : a.delay = b.delay) : a = b := by
  cases a; cases b; dsimp only at h0 h1 h2 h3; subst h0 h1 h2 h3; rfl
theorem pt_ext0 {p q : Pt} (h_id : p.id = q.id) (h_cost : p.cost = q.cost) (h_on : p.on = q.on) (h_admin : p.admin = q.admin) (h_oper : p.oper = q.oper) (h_source : p.source = q.source) (h_vec : p.vec = q.vec) (h_times : p.times = q.times) (h_offer : p.offer = q.offer) (h_given : p.given = q.given) (h_role : p.role = q.role) (h_selected : p.selected = q.selected) (h_ready : p.ready = q.ready) (h_update : p.update = q.update) (h_reselect : p.reselect = q.reselect) (h_learn : p.learn = q.learn) (h_learning : p.learning = q.learning) (h_forward : p.forward = q.forward) (h_forwarding : p.forwarding = q.forwarding) (h_agree : p.agree = q.agree) (h_agreed : p.agreed = q.agreed) (h_proposed : p.proposed = q.proposed) (h_proposing : p.proposing = q.proposing) (h_sync : p.sync = q.sync) (h_synced : p.synced = q.synced) (h_reroot : p.reroot = q.reroot) (h_disputed : p.disputed = q.disputed) (h_newInfo : p.newInfo = q.newInfo) (h_heardTc : p.heardTc = q.heardTc) (h_heardTcn : p.heardTcn = q.heardTcn) (h_heardAck : p.heardAck = q.heardAck) (h_tcAck : p.tcAck = q.tcAck) (h_tcProp : p.tcProp = q.tcProp) (h_flush : p.flush = q.flush) (h_sendRstp : p.sendRstp = q.sendRstp) (h_heardRstp : p.heardRstp = q.heardRstp) (h_heardStp : p.heardStp = q.heardStp) (h_check : p.check = q.check) (h_fd : p.fd = q.fd) (h_rr : p.rr = q.rr) (h_rb : p.rb = q.rb) (h_tc : p.tc = q.tc) (h_edge : p.edge = q.edge) (h_md : p.md = q.md) (h_info : p.info = q.info) (h_hello : p.hello = q.hello) (h_txCount : p.txCount = q.txCount) (h_change : p.change = q.change) (h_migrate : p.migrate = q.migrate) : p = q := by
  cases p; cases q; dsimp only at h_id h_cost h_on h_admin h_oper h_source h_vec h_times h_offer h_given h_role h_selected h_ready h_update h_reselect h_learn h_learning h_forward h_forwarding h_agree h_agreed h_proposed h_proposing h_sync h_synced h_reroot h_disputed h_newInfo h_heardTc h_heardTcn h_heardAck h_tcAck h_tcProp h_flush h_sendRstp h_heardRstp h_heardStp h_check h_fd h_rr h_rb h_tc h_edge h_md h_info h_hello h_txCount h_change h_migrate; subst h_id h_cost h_on h_admin h_oper h_source h_vec h_times h_offer h_given h_role h_selected h_ready h_update h_reselect h_learn h_learning h_forward h_forwarding h_agree h_agreed h_proposed h_proposing h_sync h_synced h_reroot h_disputed h_newInfo h_heardTc h_heardTcn h_heardAck h_tcAck h_tcProp h_flush h_sendRstp h_heardRstp h_heardStp h_check h_fd h_rr h_rb h_tc h_edge h_md h_info h_hello h_txCount h_change h_migrate; rfl
theorem pt_ext (p q : Pt) (h0 : p.id = q.id) (h1 : p.cost = q.cost) (h2 : p.on = q.on) (h3 : p.admin = q.admin) (h4 : p.oper = q.oper) (h5 : p.source = q.source) (h6 : p.vec.root = q.vec.root) (h7 : p.vec.cost = q.vec.cost) (h8 : p.vec.bridge = q.vec.bridge) (h9 : p.vec.port = q.vec.port) (h10 : p.times.age = q.times.age) (h11 : p.times.max = q.times.max) (h12 : p.times.hello = q.times.hello) (h13 : p.times.delay = q.times.delay) (h14 : p.offer.root = q.offer.root) (h15 : p.offer.cost = q.offer.cost) (h16 : p.offer.bridge = q.offer.bridge) (h17 : p.offer.port = q.offer.port) (h18 : p.given.age = q.given.age) (h19 : p.given.max = q.given.max) (h20 : p.given.hello = q.given.hello) (h21 : p.given.delay = q.given.delay) (h22 : p.role = q.role) (h23 : p.selected = q.selected) (h24 : p.ready = q.ready) (h25 : p.update = q.update) (h26 : p.reselect = q.reselect) (h27 : p.learn = q.learn) (h28 : p.learning = q.learning) (h29 : p.forward = q.forward) (h30 : p.forwarding = q.forwarding) (h31 : p.agree = q.agree) (h32 : p.agreed = q.agreed) (h33 : p.proposed = q.proposed) (h34 : p.proposing = q.proposing) (h35 : p.sync = q.sync) (h36 : p.synced = q.synced) (h37 : p.reroot = q.reroot) (h38 : p.disputed = q.disputed) (h39 : p.newInfo = q.newInfo) (h40 : p.heardTc = q.heardTc) (h41 : p.heardTcn = q.heardTcn) (h42 : p.heardAck = q.heardAck) (h43 : p.tcAck = q.tcAck) (h44 : p.tcProp = q.tcProp) (h45 : p.flush = q.flush) (h46 : p.sendRstp = q.sendRstp) (h47 : p.heardRstp = q.heardRstp) (h48 : p.heardStp = q.heardStp) (h49 : p.check = q.check) (h50 : p.fd = q.fd) (h51 : p.rr = q.rr) (h52 : p.rb = q.rb) (h53 : p.tc = q.tc) (h54 : p.edge = q.edge) (h55 : p.md = q.md) (h56 : p.info = q.info) (h57 : p.hello = q.hello) (h58 : p.txCount = q.txCount) (h59 : p.change = q.change) (h60 : p.migrate = q.migrate) : p = q := pt_ext0 h0 h1 h2 h3 h4 h5 (vc_ext h6 h7 h8 h9) (tm_ext h10 h11 h12 h13) (vc_ext h14 h15 h16 h17) (tm_ext h18 h19 h20 h21) h22 h23 h24 h25 h26 h27 h28 h29 h30 h31 h32 h33 h34 h35 h36 h37 h38 h39 h40 h41 h42 h43 h44 h45 h46 h47 h48 h49 h50 h51 h52 h53 h54 h55 h56 h57 h58 h59 h60

set_option maxRecDepth 100000 in
set_option maxHeartbeats 4000000 in
theorem run_ptSame (p : Pt) (w : World) : Sem.run Try.prog (binOp .neq 47 (.agg (cellsT p)) (.agg (cellsT p))) w = .ok (.bool false) w := by
  unfold cellsT
  go_simp
set_option maxRecDepth 100000 in
set_option maxHeartbeats 4000000 in
theorem run_ptNeq (p q : Pt) (w : World) : Sem.run Try.prog (binOp .neq 47 (.agg (cellsT p)) (.agg (cellsT q))) w = .ok (.bool (!decide (p = q))) w := by
  by_cases hpq : p = q
  · subst hpq
    rw [run_ptSame p w]
    simp
  · rw [decide_eq_false hpq]
    unfold cellsT
    go_simp
    intro h0 h1 h2 h3 h4 h5 h6 h7 h8 h9 h10 h11 h12 h13 h14 h15 h16 h17 h18 h19 h20 h21 h22 h23 h24 h25 h26 h27 h28 h29 h30 h31 h32 h33 h34 h35 h36 h37 h38 h39 h40 h41 h42 h43 h44 h45 h46 h47 h48 h49 h50 h51 h52 h53 h54 h55 h56 h57 h58 h59 h60
    exact absurd (pt_ext p q h0 h1 h2 h3 h4 h5 h6 h7 h8 h9 h10 h11 h12 h13 h14 h15 h16 h17 h18 h19 h20 h21 h22 h23 h24 h25 h26 h27 h28 h29 h30 h31 h32 h33 h34 h35 h36 h37 h38 h39 h40 h41 h42 h43 h44 h45 h46 h47 h48 h49 h50 h51 h52 h53 h54 h55 h56 h57 h58 h59 h60) hpq
end Go.Proofs.Ytlfmjinllffifaa
