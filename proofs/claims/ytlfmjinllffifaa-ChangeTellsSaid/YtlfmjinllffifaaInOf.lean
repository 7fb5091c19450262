/-
  Layer 11: a port as the document has it (the law's Of).
-/
import Derived.Test.YtlfmjinllffifaaM4
namespace Go.Proofs.Ytlfmjinllffifaa
set_option linter.unusedVariables false
set_option linter.unusedSimpArgs false
open Go.RowKit Vm Rm Bm Im

theorem relist {P : Program} {md : Region.Mode} {ops : Array Oper} {Q : Exit → Act → World → Prop} {S : World → Prop} {fuel : Nat} {l : Array Bool} {a : Act} {w : World} (l' : Array Bool) (e : l = l') (h : wpAnyH P md ops Q S fuel l' a w) : wpAnyH P md ops Q S fuel l a w := e ▸ h
theorem any_to {P : Program} {md : Region.Mode} {ops : Array Oper} {Q : Exit → Act → World → Prop} {S : World → Prop} {fuel : Nat} {l : Array Bool} {a : Act} {w W : World} (e : W = w) (h : wpAnyH P md ops Q S fuel l a W) : wpAnyH P md ops Q S fuel l a w := e ▸ h
theorem yieldsIf_fld {P : Program} {ops : Array Oper} {S : World → Prop} {op : Oper} {a : Act} (hw : Region.wanted op (yielded ops a.tmps) = true) (s : TypeId) (x : Operand) (f : Nat) (ho : op.op = .fieldAddr s x f) (pv : Value) (hx : a.eval x = pv) (V : Value) (hv : ∀ w, (Instr.fieldAt s pv f).run P w = .ok V w) : YieldsIf P ops S op V a :=
  .inl ⟨hw, fun w _ => by
    unfold execOp
    simp only [ho, hx, Sem.run_bind, Sem.run_pure, Result.andThen_ok, hv w]⟩
theorem step_fld {P : Program} {ops : Array Oper} {op : Oper} {a : Act} {w : World} {K : Act → World → Prop} {Q : Exit → Act → World → Prop} (hw : Region.wanted op (yielded ops a.tmps) = true) (s : TypeId) (x : Operand) (f : Nat) (ho : op.op = .fieldAddr s x f) (pv : Value) (hx : a.eval x = pv) (V : Value) (hv : ∀ w, (Instr.fieldAt s pv f).run P w = .ok V w)
    (h : K (a.put op.dst V) w) : if Region.wanted op (yielded ops a.tmps) = true then Oper.wp P op a w K Q else K (a.put op.dst undef) w := by
  rw [if_pos hw]
  unfold Oper.wp execOp
  simp only [ho, hx, Sem.run_bind, Sem.run_pure, Result.andThen_ok, hv w]
  exact h
theorem step_st1 {P : Program} {ops : Array Oper} {op : Oper} {a : Act} {w : World} {K : Act → World → Prop} {Q : Exit → Act → World → Prop} (hw : Region.wanted op (yielded ops a.tmps) = true) (t : TypeId) (x y : Operand) (ho : op.op = .store t x y) (ad : Addr) (hx : a.eval x = .pointer (some ad)) (V : Value) (hy : a.eval y = V)
    (hr : (Instr.storeAt t (.pointer (some ad)) V).run P w = .ok () (w.setCell ad V)) (h : K (a.put op.dst undef) (w.setCell ad V)) : if Region.wanted op (yielded ops a.tmps) = true then Oper.wp P op a w K Q else K (a.put op.dst undef) w := by
  rw [if_pos hw]
  unfold Oper.wp execOp
  simp only [ho, hx, hy, Sem.run_bind, Sem.run_pure, Result.andThen_ok, hr]
  exact h
theorem ld_bool {w : World} {ad : Addr} {b : Bool} (h : w.cell? ad = some (.bool b)) : (Instr.loadAt 4 (.pointer (some ad))).run Try.prog w = .ok (.bool b) w := by go_simp
theorem ld_int {w : World} {ad : Addr} {n : Int} (h : w.cell? ad = some (.int .i64 n)) : (Instr.loadAt 3 (.pointer (some ad))).run Try.prog w = .ok (.int .i64 n) w := by go_simp
theorem st_bool {w : World} {b j : Nat} {v u : Bool} (h : w.cell? ⟨b, j, none⟩ = some (.bool u)) (hf : w.frozen? ⟨b, j, none⟩ = false) : (Instr.storeAt 4 (.pointer (some ⟨b, j, none⟩)) (.bool v)).run Try.prog w = .ok () (w.setCell ⟨b, j, none⟩ (.bool v)) := by go_simp
theorem st_int {w : World} {b j : Nat} {v u : Int} (h : w.cell? ⟨b, j, none⟩ = some (.int .i64 u)) (hf : w.frozen? ⟨b, j, none⟩ = false) : (Instr.storeAt 3 (.pointer (some ⟨b, j, none⟩)) (.int .i64 v)).run Try.prog w = .ok () (w.setCell ⟨b, j, none⟩ (.int .i64 v)) := by go_simp
def hf14 (p : Pt) : Pt := { zeroP with id := p.id, cost := p.cost, on := p.on, admin := p.admin, oper := p.oper, source := p.source, vec := p.vec, times := p.times, offer := p.offer, given := p.given, role := p.role, selected := p.selected, ready := p.ready, update := p.update, reselect := p.reselect }
def hf15 (p : Pt) : Pt := { zeroP with id := p.id, cost := p.cost, on := p.on, admin := p.admin, oper := p.oper, source := p.source, vec := p.vec, times := p.times, offer := p.offer, given := p.given, role := p.role, selected := p.selected, ready := p.ready, update := p.update, reselect := p.reselect, learn := p.learn }
def hf16 (p : Pt) : Pt := { zeroP with id := p.id, cost := p.cost, on := p.on, admin := p.admin, oper := p.oper, source := p.source, vec := p.vec, times := p.times, offer := p.offer, given := p.given, role := p.role, selected := p.selected, ready := p.ready, update := p.update, reselect := p.reselect, learn := p.learn, learning := p.learning }
def hf17 (p : Pt) : Pt := { zeroP with id := p.id, cost := p.cost, on := p.on, admin := p.admin, oper := p.oper, source := p.source, vec := p.vec, times := p.times, offer := p.offer, given := p.given, role := p.role, selected := p.selected, ready := p.ready, update := p.update, reselect := p.reselect, learn := p.learn, learning := p.learning, forward := p.forward }
def hf18 (p : Pt) : Pt := { zeroP with id := p.id, cost := p.cost, on := p.on, admin := p.admin, oper := p.oper, source := p.source, vec := p.vec, times := p.times, offer := p.offer, given := p.given, role := p.role, selected := p.selected, ready := p.ready, update := p.update, reselect := p.reselect, learn := p.learn, learning := p.learning, forward := p.forward, forwarding := p.forwarding }
def hf19 (p : Pt) : Pt := { zeroP with id := p.id, cost := p.cost, on := p.on, admin := p.admin, oper := p.oper, source := p.source, vec := p.vec, times := p.times, offer := p.offer, given := p.given, role := p.role, selected := p.selected, ready := p.ready, update := p.update, reselect := p.reselect, learn := p.learn, learning := p.learning, forward := p.forward, forwarding := p.forwarding, agree := p.agree }
def hf20 (p : Pt) : Pt := { zeroP with id := p.id, cost := p.cost, on := p.on, admin := p.admin, oper := p.oper, source := p.source, vec := p.vec, times := p.times, offer := p.offer, given := p.given, role := p.role, selected := p.selected, ready := p.ready, update := p.update, reselect := p.reselect, learn := p.learn, learning := p.learning, forward := p.forward, forwarding := p.forwarding, agree := p.agree, agreed := p.agreed }
def hf21 (p : Pt) : Pt := { zeroP with id := p.id, cost := p.cost, on := p.on, admin := p.admin, oper := p.oper, source := p.source, vec := p.vec, times := p.times, offer := p.offer, given := p.given, role := p.role, selected := p.selected, ready := p.ready, update := p.update, reselect := p.reselect, learn := p.learn, learning := p.learning, forward := p.forward, forwarding := p.forwarding, agree := p.agree, agreed := p.agreed, proposed := p.proposed }
def hf22 (p : Pt) : Pt := { zeroP with id := p.id, cost := p.cost, on := p.on, admin := p.admin, oper := p.oper, source := p.source, vec := p.vec, times := p.times, offer := p.offer, given := p.given, role := p.role, selected := p.selected, ready := p.ready, update := p.update, reselect := p.reselect, learn := p.learn, learning := p.learning, forward := p.forward, forwarding := p.forwarding, agree := p.agree, agreed := p.agreed, proposed := p.proposed, proposing := p.proposing }
def hf23 (p : Pt) : Pt := { zeroP with id := p.id, cost := p.cost, on := p.on, admin := p.admin, oper := p.oper, source := p.source, vec := p.vec, times := p.times, offer := p.offer, given := p.given, role := p.role, selected := p.selected, ready := p.ready, update := p.update, reselect := p.reselect, learn := p.learn, learning := p.learning, forward := p.forward, forwarding := p.forwarding, agree := p.agree, agreed := p.agreed, proposed := p.proposed, proposing := p.proposing, sync := p.sync }
def hf24 (p : Pt) : Pt := { zeroP with id := p.id, cost := p.cost, on := p.on, admin := p.admin, oper := p.oper, source := p.source, vec := p.vec, times := p.times, offer := p.offer, given := p.given, role := p.role, selected := p.selected, ready := p.ready, update := p.update, reselect := p.reselect, learn := p.learn, learning := p.learning, forward := p.forward, forwarding := p.forwarding, agree := p.agree, agreed := p.agreed, proposed := p.proposed, proposing := p.proposing, sync := p.sync, synced := p.synced }
def hf25 (p : Pt) : Pt := { zeroP with id := p.id, cost := p.cost, on := p.on, admin := p.admin, oper := p.oper, source := p.source, vec := p.vec, times := p.times, offer := p.offer, given := p.given, role := p.role, selected := p.selected, ready := p.ready, update := p.update, reselect := p.reselect, learn := p.learn, learning := p.learning, forward := p.forward, forwarding := p.forwarding, agree := p.agree, agreed := p.agreed, proposed := p.proposed, proposing := p.proposing, sync := p.sync, synced := p.synced, reroot := p.reroot }
def hf26 (p : Pt) : Pt := { zeroP with id := p.id, cost := p.cost, on := p.on, admin := p.admin, oper := p.oper, source := p.source, vec := p.vec, times := p.times, offer := p.offer, given := p.given, role := p.role, selected := p.selected, ready := p.ready, update := p.update, reselect := p.reselect, learn := p.learn, learning := p.learning, forward := p.forward, forwarding := p.forwarding, agree := p.agree, agreed := p.agreed, proposed := p.proposed, proposing := p.proposing, sync := p.sync, synced := p.synced, reroot := p.reroot, disputed := p.disputed }
def hf27 (p : Pt) : Pt := { zeroP with id := p.id, cost := p.cost, on := p.on, admin := p.admin, oper := p.oper, source := p.source, vec := p.vec, times := p.times, offer := p.offer, given := p.given, role := p.role, selected := p.selected, ready := p.ready, update := p.update, reselect := p.reselect, learn := p.learn, learning := p.learning, forward := p.forward, forwarding := p.forwarding, agree := p.agree, agreed := p.agreed, proposed := p.proposed, proposing := p.proposing, sync := p.sync, synced := p.synced, reroot := p.reroot, disputed := p.disputed, newInfo := p.newInfo }
def hf28 (p : Pt) : Pt := { zeroP with id := p.id, cost := p.cost, on := p.on, admin := p.admin, oper := p.oper, source := p.source, vec := p.vec, times := p.times, offer := p.offer, given := p.given, role := p.role, selected := p.selected, ready := p.ready, update := p.update, reselect := p.reselect, learn := p.learn, learning := p.learning, forward := p.forward, forwarding := p.forwarding, agree := p.agree, agreed := p.agreed, proposed := p.proposed, proposing := p.proposing, sync := p.sync, synced := p.synced, reroot := p.reroot, disputed := p.disputed, newInfo := p.newInfo, heardTc := p.heardTc }
def hf29 (p : Pt) : Pt := { zeroP with id := p.id, cost := p.cost, on := p.on, admin := p.admin, oper := p.oper, source := p.source, vec := p.vec, times := p.times, offer := p.offer, given := p.given, role := p.role, selected := p.selected, ready := p.ready, update := p.update, reselect := p.reselect, learn := p.learn, learning := p.learning, forward := p.forward, forwarding := p.forwarding, agree := p.agree, agreed := p.agreed, proposed := p.proposed, proposing := p.proposing, sync := p.sync, synced := p.synced, reroot := p.reroot, disputed := p.disputed, newInfo := p.newInfo, heardTc := p.heardTc, heardTcn := p.heardTcn }
def hf30 (p : Pt) : Pt := { zeroP with id := p.id, cost := p.cost, on := p.on, admin := p.admin, oper := p.oper, source := p.source, vec := p.vec, times := p.times, offer := p.offer, given := p.given, role := p.role, selected := p.selected, ready := p.ready, update := p.update, reselect := p.reselect, learn := p.learn, learning := p.learning, forward := p.forward, forwarding := p.forwarding, agree := p.agree, agreed := p.agreed, proposed := p.proposed, proposing := p.proposing, sync := p.sync, synced := p.synced, reroot := p.reroot, disputed := p.disputed, newInfo := p.newInfo, heardTc := p.heardTc, heardTcn := p.heardTcn, heardAck := p.heardAck }
def hf31 (p : Pt) : Pt := { zeroP with id := p.id, cost := p.cost, on := p.on, admin := p.admin, oper := p.oper, source := p.source, vec := p.vec, times := p.times, offer := p.offer, given := p.given, role := p.role, selected := p.selected, ready := p.ready, update := p.update, reselect := p.reselect, learn := p.learn, learning := p.learning, forward := p.forward, forwarding := p.forwarding, agree := p.agree, agreed := p.agreed, proposed := p.proposed, proposing := p.proposing, sync := p.sync, synced := p.synced, reroot := p.reroot, disputed := p.disputed, newInfo := p.newInfo, heardTc := p.heardTc, heardTcn := p.heardTcn, heardAck := p.heardAck, tcAck := p.tcAck }
def hf32 (p : Pt) : Pt := { zeroP with id := p.id, cost := p.cost, on := p.on, admin := p.admin, oper := p.oper, source := p.source, vec := p.vec, times := p.times, offer := p.offer, given := p.given, role := p.role, selected := p.selected, ready := p.ready, update := p.update, reselect := p.reselect, learn := p.learn, learning := p.learning, forward := p.forward, forwarding := p.forwarding, agree := p.agree, agreed := p.agreed, proposed := p.proposed, proposing := p.proposing, sync := p.sync, synced := p.synced, reroot := p.reroot, disputed := p.disputed, newInfo := p.newInfo, heardTc := p.heardTc, heardTcn := p.heardTcn, heardAck := p.heardAck, tcAck := p.tcAck, tcProp := p.tcProp }
def hf33 (p : Pt) : Pt := { zeroP with id := p.id, cost := p.cost, on := p.on, admin := p.admin, oper := p.oper, source := p.source, vec := p.vec, times := p.times, offer := p.offer, given := p.given, role := p.role, selected := p.selected, ready := p.ready, update := p.update, reselect := p.reselect, learn := p.learn, learning := p.learning, forward := p.forward, forwarding := p.forwarding, agree := p.agree, agreed := p.agreed, proposed := p.proposed, proposing := p.proposing, sync := p.sync, synced := p.synced, reroot := p.reroot, disputed := p.disputed, newInfo := p.newInfo, heardTc := p.heardTc, heardTcn := p.heardTcn, heardAck := p.heardAck, tcAck := p.tcAck, tcProp := p.tcProp, flush := p.flush }
def hf34 (p : Pt) : Pt := { zeroP with id := p.id, cost := p.cost, on := p.on, admin := p.admin, oper := p.oper, source := p.source, vec := p.vec, times := p.times, offer := p.offer, given := p.given, role := p.role, selected := p.selected, ready := p.ready, update := p.update, reselect := p.reselect, learn := p.learn, learning := p.learning, forward := p.forward, forwarding := p.forwarding, agree := p.agree, agreed := p.agreed, proposed := p.proposed, proposing := p.proposing, sync := p.sync, synced := p.synced, reroot := p.reroot, disputed := p.disputed, newInfo := p.newInfo, heardTc := p.heardTc, heardTcn := p.heardTcn, heardAck := p.heardAck, tcAck := p.tcAck, tcProp := p.tcProp, flush := p.flush, sendRstp := p.sendRstp }
def hf35 (p : Pt) : Pt := { zeroP with id := p.id, cost := p.cost, on := p.on, admin := p.admin, oper := p.oper, source := p.source, vec := p.vec, times := p.times, offer := p.offer, given := p.given, role := p.role, selected := p.selected, ready := p.ready, update := p.update, reselect := p.reselect, learn := p.learn, learning := p.learning, forward := p.forward, forwarding := p.forwarding, agree := p.agree, agreed := p.agreed, proposed := p.proposed, proposing := p.proposing, sync := p.sync, synced := p.synced, reroot := p.reroot, disputed := p.disputed, newInfo := p.newInfo, heardTc := p.heardTc, heardTcn := p.heardTcn, heardAck := p.heardAck, tcAck := p.tcAck, tcProp := p.tcProp, flush := p.flush, sendRstp := p.sendRstp, heardRstp := p.heardRstp }
def hf36 (p : Pt) : Pt := { zeroP with id := p.id, cost := p.cost, on := p.on, admin := p.admin, oper := p.oper, source := p.source, vec := p.vec, times := p.times, offer := p.offer, given := p.given, role := p.role, selected := p.selected, ready := p.ready, update := p.update, reselect := p.reselect, learn := p.learn, learning := p.learning, forward := p.forward, forwarding := p.forwarding, agree := p.agree, agreed := p.agreed, proposed := p.proposed, proposing := p.proposing, sync := p.sync, synced := p.synced, reroot := p.reroot, disputed := p.disputed, newInfo := p.newInfo, heardTc := p.heardTc, heardTcn := p.heardTcn, heardAck := p.heardAck, tcAck := p.tcAck, tcProp := p.tcProp, flush := p.flush, sendRstp := p.sendRstp, heardRstp := p.heardRstp, heardStp := p.heardStp }
def hf37 (p : Pt) : Pt := { zeroP with id := p.id, cost := p.cost, on := p.on, admin := p.admin, oper := p.oper, source := p.source, vec := p.vec, times := p.times, offer := p.offer, given := p.given, role := p.role, selected := p.selected, ready := p.ready, update := p.update, reselect := p.reselect, learn := p.learn, learning := p.learning, forward := p.forward, forwarding := p.forwarding, agree := p.agree, agreed := p.agreed, proposed := p.proposed, proposing := p.proposing, sync := p.sync, synced := p.synced, reroot := p.reroot, disputed := p.disputed, newInfo := p.newInfo, heardTc := p.heardTc, heardTcn := p.heardTcn, heardAck := p.heardAck, tcAck := p.tcAck, tcProp := p.tcProp, flush := p.flush, sendRstp := p.sendRstp, heardRstp := p.heardRstp, heardStp := p.heardStp, check := p.check }
def hf38 (p : Pt) : Pt := { zeroP with id := p.id, cost := p.cost, on := p.on, admin := p.admin, oper := p.oper, source := p.source, vec := p.vec, times := p.times, offer := p.offer, given := p.given, role := p.role, selected := p.selected, ready := p.ready, update := p.update, reselect := p.reselect, learn := p.learn, learning := p.learning, forward := p.forward, forwarding := p.forwarding, agree := p.agree, agreed := p.agreed, proposed := p.proposed, proposing := p.proposing, sync := p.sync, synced := p.synced, reroot := p.reroot, disputed := p.disputed, newInfo := p.newInfo, heardTc := p.heardTc, heardTcn := p.heardTcn, heardAck := p.heardAck, tcAck := p.tcAck, tcProp := p.tcProp, flush := p.flush, sendRstp := p.sendRstp, heardRstp := p.heardRstp, heardStp := p.heardStp, check := p.check, fd := p.fd }
def hf39 (p : Pt) : Pt := { zeroP with id := p.id, cost := p.cost, on := p.on, admin := p.admin, oper := p.oper, source := p.source, vec := p.vec, times := p.times, offer := p.offer, given := p.given, role := p.role, selected := p.selected, ready := p.ready, update := p.update, reselect := p.reselect, learn := p.learn, learning := p.learning, forward := p.forward, forwarding := p.forwarding, agree := p.agree, agreed := p.agreed, proposed := p.proposed, proposing := p.proposing, sync := p.sync, synced := p.synced, reroot := p.reroot, disputed := p.disputed, newInfo := p.newInfo, heardTc := p.heardTc, heardTcn := p.heardTcn, heardAck := p.heardAck, tcAck := p.tcAck, tcProp := p.tcProp, flush := p.flush, sendRstp := p.sendRstp, heardRstp := p.heardRstp, heardStp := p.heardStp, check := p.check, fd := p.fd, rr := p.rr }
def hf40 (p : Pt) : Pt := { zeroP with id := p.id, cost := p.cost, on := p.on, admin := p.admin, oper := p.oper, source := p.source, vec := p.vec, times := p.times, offer := p.offer, given := p.given, role := p.role, selected := p.selected, ready := p.ready, update := p.update, reselect := p.reselect, learn := p.learn, learning := p.learning, forward := p.forward, forwarding := p.forwarding, agree := p.agree, agreed := p.agreed, proposed := p.proposed, proposing := p.proposing, sync := p.sync, synced := p.synced, reroot := p.reroot, disputed := p.disputed, newInfo := p.newInfo, heardTc := p.heardTc, heardTcn := p.heardTcn, heardAck := p.heardAck, tcAck := p.tcAck, tcProp := p.tcProp, flush := p.flush, sendRstp := p.sendRstp, heardRstp := p.heardRstp, heardStp := p.heardStp, check := p.check, fd := p.fd, rr := p.rr, rb := p.rb }
def hf41 (p : Pt) : Pt := { zeroP with id := p.id, cost := p.cost, on := p.on, admin := p.admin, oper := p.oper, source := p.source, vec := p.vec, times := p.times, offer := p.offer, given := p.given, role := p.role, selected := p.selected, ready := p.ready, update := p.update, reselect := p.reselect, learn := p.learn, learning := p.learning, forward := p.forward, forwarding := p.forwarding, agree := p.agree, agreed := p.agreed, proposed := p.proposed, proposing := p.proposing, sync := p.sync, synced := p.synced, reroot := p.reroot, disputed := p.disputed, newInfo := p.newInfo, heardTc := p.heardTc, heardTcn := p.heardTcn, heardAck := p.heardAck, tcAck := p.tcAck, tcProp := p.tcProp, flush := p.flush, sendRstp := p.sendRstp, heardRstp := p.heardRstp, heardStp := p.heardStp, check := p.check, fd := p.fd, rr := p.rr, rb := p.rb, tc := p.tc }
def hf42 (p : Pt) : Pt := { zeroP with id := p.id, cost := p.cost, on := p.on, admin := p.admin, oper := p.oper, source := p.source, vec := p.vec, times := p.times, offer := p.offer, given := p.given, role := p.role, selected := p.selected, ready := p.ready, update := p.update, reselect := p.reselect, learn := p.learn, learning := p.learning, forward := p.forward, forwarding := p.forwarding, agree := p.agree, agreed := p.agreed, proposed := p.proposed, proposing := p.proposing, sync := p.sync, synced := p.synced, reroot := p.reroot, disputed := p.disputed, newInfo := p.newInfo, heardTc := p.heardTc, heardTcn := p.heardTcn, heardAck := p.heardAck, tcAck := p.tcAck, tcProp := p.tcProp, flush := p.flush, sendRstp := p.sendRstp, heardRstp := p.heardRstp, heardStp := p.heardStp, check := p.check, fd := p.fd, rr := p.rr, rb := p.rb, tc := p.tc, edge := p.edge }
def hf43 (p : Pt) : Pt := { zeroP with id := p.id, cost := p.cost, on := p.on, admin := p.admin, oper := p.oper, source := p.source, vec := p.vec, times := p.times, offer := p.offer, given := p.given, role := p.role, selected := p.selected, ready := p.ready, update := p.update, reselect := p.reselect, learn := p.learn, learning := p.learning, forward := p.forward, forwarding := p.forwarding, agree := p.agree, agreed := p.agreed, proposed := p.proposed, proposing := p.proposing, sync := p.sync, synced := p.synced, reroot := p.reroot, disputed := p.disputed, newInfo := p.newInfo, heardTc := p.heardTc, heardTcn := p.heardTcn, heardAck := p.heardAck, tcAck := p.tcAck, tcProp := p.tcProp, flush := p.flush, sendRstp := p.sendRstp, heardRstp := p.heardRstp, heardStp := p.heardStp, check := p.check, fd := p.fd, rr := p.rr, rb := p.rb, tc := p.tc, edge := p.edge, md := p.md }
def hf44 (p : Pt) : Pt := { zeroP with id := p.id, cost := p.cost, on := p.on, admin := p.admin, oper := p.oper, source := p.source, vec := p.vec, times := p.times, offer := p.offer, given := p.given, role := p.role, selected := p.selected, ready := p.ready, update := p.update, reselect := p.reselect, learn := p.learn, learning := p.learning, forward := p.forward, forwarding := p.forwarding, agree := p.agree, agreed := p.agreed, proposed := p.proposed, proposing := p.proposing, sync := p.sync, synced := p.synced, reroot := p.reroot, disputed := p.disputed, newInfo := p.newInfo, heardTc := p.heardTc, heardTcn := p.heardTcn, heardAck := p.heardAck, tcAck := p.tcAck, tcProp := p.tcProp, flush := p.flush, sendRstp := p.sendRstp, heardRstp := p.heardRstp, heardStp := p.heardStp, check := p.check, fd := p.fd, rr := p.rr, rb := p.rb, tc := p.tc, edge := p.edge, md := p.md, info := p.info }
def hf45 (p : Pt) : Pt := { zeroP with id := p.id, cost := p.cost, on := p.on, admin := p.admin, oper := p.oper, source := p.source, vec := p.vec, times := p.times, offer := p.offer, given := p.given, role := p.role, selected := p.selected, ready := p.ready, update := p.update, reselect := p.reselect, learn := p.learn, learning := p.learning, forward := p.forward, forwarding := p.forwarding, agree := p.agree, agreed := p.agreed, proposed := p.proposed, proposing := p.proposing, sync := p.sync, synced := p.synced, reroot := p.reroot, disputed := p.disputed, newInfo := p.newInfo, heardTc := p.heardTc, heardTcn := p.heardTcn, heardAck := p.heardAck, tcAck := p.tcAck, tcProp := p.tcProp, flush := p.flush, sendRstp := p.sendRstp, heardRstp := p.heardRstp, heardStp := p.heardStp, check := p.check, fd := p.fd, rr := p.rr, rb := p.rb, tc := p.tc, edge := p.edge, md := p.md, info := p.info, hello := p.hello }
def hf46 (p : Pt) : Pt := { zeroP with id := p.id, cost := p.cost, on := p.on, admin := p.admin, oper := p.oper, source := p.source, vec := p.vec, times := p.times, offer := p.offer, given := p.given, role := p.role, selected := p.selected, ready := p.ready, update := p.update, reselect := p.reselect, learn := p.learn, learning := p.learning, forward := p.forward, forwarding := p.forwarding, agree := p.agree, agreed := p.agreed, proposed := p.proposed, proposing := p.proposing, sync := p.sync, synced := p.synced, reroot := p.reroot, disputed := p.disputed, newInfo := p.newInfo, heardTc := p.heardTc, heardTcn := p.heardTcn, heardAck := p.heardAck, tcAck := p.tcAck, tcProp := p.tcProp, flush := p.flush, sendRstp := p.sendRstp, heardRstp := p.heardRstp, heardStp := p.heardStp, check := p.check, fd := p.fd, rr := p.rr, rb := p.rb, tc := p.tc, edge := p.edge, md := p.md, info := p.info, hello := p.hello, txCount := p.txCount }
def hf47 (p : Pt) : Pt := { zeroP with id := p.id, cost := p.cost, on := p.on, admin := p.admin, oper := p.oper, source := p.source, vec := p.vec, times := p.times, offer := p.offer, given := p.given, role := p.role, selected := p.selected, ready := p.ready, update := p.update, reselect := p.reselect, learn := p.learn, learning := p.learning, forward := p.forward, forwarding := p.forwarding, agree := p.agree, agreed := p.agreed, proposed := p.proposed, proposing := p.proposing, sync := p.sync, synced := p.synced, reroot := p.reroot, disputed := p.disputed, newInfo := p.newInfo, heardTc := p.heardTc, heardTcn := p.heardTcn, heardAck := p.heardAck, tcAck := p.tcAck, tcProp := p.tcProp, flush := p.flush, sendRstp := p.sendRstp, heardRstp := p.heardRstp, heardStp := p.heardStp, check := p.check, fd := p.fd, rr := p.rr, rb := p.rb, tc := p.tc, edge := p.edge, md := p.md, info := p.info, hello := p.hello, txCount := p.txCount, change := p.change }
def hf48 (p : Pt) : Pt := { zeroP with id := p.id, cost := p.cost, on := p.on, admin := p.admin, oper := p.oper, source := p.source, vec := p.vec, times := p.times, offer := p.offer, given := p.given, role := p.role, selected := p.selected, ready := p.ready, update := p.update, reselect := p.reselect, learn := p.learn, learning := p.learning, forward := p.forward, forwarding := p.forwarding, agree := p.agree, agreed := p.agreed, proposed := p.proposed, proposing := p.proposing, sync := p.sync, synced := p.synced, reroot := p.reroot, disputed := p.disputed, newInfo := p.newInfo, heardTc := p.heardTc, heardTcn := p.heardTcn, heardAck := p.heardAck, tcAck := p.tcAck, tcProp := p.tcProp, flush := p.flush, sendRstp := p.sendRstp, heardRstp := p.heardRstp, heardStp := p.heardStp, check := p.check, fd := p.fd, rr := p.rr, rb := p.rb, tc := p.tc, edge := p.edge, md := p.md, info := p.info, hello := p.hello, txCount := p.txCount, change := p.change, migrate := p.migrate }
theorem sf15 {T : TypeId} {w : World} {b : Nat} {p : Pt} (h : PtBlk T w b (hf14 p)) : PtBlk T (w.setCell ⟨b, 27, none⟩ (.bool p.learn)) b (hf15 p) := by unfold PtBlk at h ⊢; exact blk_set h rfl
theorem sf16 {T : TypeId} {w : World} {b : Nat} {p : Pt} (h : PtBlk T w b (hf15 p)) : PtBlk T (w.setCell ⟨b, 28, none⟩ (.bool p.learning)) b (hf16 p) := by unfold PtBlk at h ⊢; exact blk_set h rfl
theorem sf17 {T : TypeId} {w : World} {b : Nat} {p : Pt} (h : PtBlk T w b (hf16 p)) : PtBlk T (w.setCell ⟨b, 29, none⟩ (.bool p.forward)) b (hf17 p) := by unfold PtBlk at h ⊢; exact blk_set h rfl
theorem sf18 {T : TypeId} {w : World} {b : Nat} {p : Pt} (h : PtBlk T w b (hf17 p)) : PtBlk T (w.setCell ⟨b, 30, none⟩ (.bool p.forwarding)) b (hf18 p) := by unfold PtBlk at h ⊢; exact blk_set h rfl
theorem sf19 {T : TypeId} {w : World} {b : Nat} {p : Pt} (h : PtBlk T w b (hf18 p)) : PtBlk T (w.setCell ⟨b, 31, none⟩ (.bool p.agree)) b (hf19 p) := by unfold PtBlk at h ⊢; exact blk_set h rfl
theorem sf20 {T : TypeId} {w : World} {b : Nat} {p : Pt} (h : PtBlk T w b (hf19 p)) : PtBlk T (w.setCell ⟨b, 32, none⟩ (.bool p.agreed)) b (hf20 p) := by unfold PtBlk at h ⊢; exact blk_set h rfl
theorem sf21 {T : TypeId} {w : World} {b : Nat} {p : Pt} (h : PtBlk T w b (hf20 p)) : PtBlk T (w.setCell ⟨b, 33, none⟩ (.bool p.proposed)) b (hf21 p) := by unfold PtBlk at h ⊢; exact blk_set h rfl
theorem sf22 {T : TypeId} {w : World} {b : Nat} {p : Pt} (h : PtBlk T w b (hf21 p)) : PtBlk T (w.setCell ⟨b, 34, none⟩ (.bool p.proposing)) b (hf22 p) := by unfold PtBlk at h ⊢; exact blk_set h rfl
theorem sf23 {T : TypeId} {w : World} {b : Nat} {p : Pt} (h : PtBlk T w b (hf22 p)) : PtBlk T (w.setCell ⟨b, 35, none⟩ (.bool p.sync)) b (hf23 p) := by unfold PtBlk at h ⊢; exact blk_set h rfl
theorem sf24 {T : TypeId} {w : World} {b : Nat} {p : Pt} (h : PtBlk T w b (hf23 p)) : PtBlk T (w.setCell ⟨b, 36, none⟩ (.bool p.synced)) b (hf24 p) := by unfold PtBlk at h ⊢; exact blk_set h rfl
theorem sf25 {T : TypeId} {w : World} {b : Nat} {p : Pt} (h : PtBlk T w b (hf24 p)) : PtBlk T (w.setCell ⟨b, 37, none⟩ (.bool p.reroot)) b (hf25 p) := by unfold PtBlk at h ⊢; exact blk_set h rfl
theorem sf26 {T : TypeId} {w : World} {b : Nat} {p : Pt} (h : PtBlk T w b (hf25 p)) : PtBlk T (w.setCell ⟨b, 38, none⟩ (.bool p.disputed)) b (hf26 p) := by unfold PtBlk at h ⊢; exact blk_set h rfl
theorem sf27 {T : TypeId} {w : World} {b : Nat} {p : Pt} (h : PtBlk T w b (hf26 p)) : PtBlk T (w.setCell ⟨b, 39, none⟩ (.bool p.newInfo)) b (hf27 p) := by unfold PtBlk at h ⊢; exact blk_set h rfl
theorem sf28 {T : TypeId} {w : World} {b : Nat} {p : Pt} (h : PtBlk T w b (hf27 p)) : PtBlk T (w.setCell ⟨b, 40, none⟩ (.bool p.heardTc)) b (hf28 p) := by unfold PtBlk at h ⊢; exact blk_set h rfl
theorem sf29 {T : TypeId} {w : World} {b : Nat} {p : Pt} (h : PtBlk T w b (hf28 p)) : PtBlk T (w.setCell ⟨b, 41, none⟩ (.bool p.heardTcn)) b (hf29 p) := by unfold PtBlk at h ⊢; exact blk_set h rfl
theorem sf30 {T : TypeId} {w : World} {b : Nat} {p : Pt} (h : PtBlk T w b (hf29 p)) : PtBlk T (w.setCell ⟨b, 42, none⟩ (.bool p.heardAck)) b (hf30 p) := by unfold PtBlk at h ⊢; exact blk_set h rfl
theorem sf31 {T : TypeId} {w : World} {b : Nat} {p : Pt} (h : PtBlk T w b (hf30 p)) : PtBlk T (w.setCell ⟨b, 43, none⟩ (.bool p.tcAck)) b (hf31 p) := by unfold PtBlk at h ⊢; exact blk_set h rfl
theorem sf32 {T : TypeId} {w : World} {b : Nat} {p : Pt} (h : PtBlk T w b (hf31 p)) : PtBlk T (w.setCell ⟨b, 44, none⟩ (.bool p.tcProp)) b (hf32 p) := by unfold PtBlk at h ⊢; exact blk_set h rfl
theorem sf33 {T : TypeId} {w : World} {b : Nat} {p : Pt} (h : PtBlk T w b (hf32 p)) : PtBlk T (w.setCell ⟨b, 45, none⟩ (.bool p.flush)) b (hf33 p) := by unfold PtBlk at h ⊢; exact blk_set h rfl
theorem sf34 {T : TypeId} {w : World} {b : Nat} {p : Pt} (h : PtBlk T w b (hf33 p)) : PtBlk T (w.setCell ⟨b, 46, none⟩ (.bool p.sendRstp)) b (hf34 p) := by unfold PtBlk at h ⊢; exact blk_set h rfl
theorem sf35 {T : TypeId} {w : World} {b : Nat} {p : Pt} (h : PtBlk T w b (hf34 p)) : PtBlk T (w.setCell ⟨b, 47, none⟩ (.bool p.heardRstp)) b (hf35 p) := by unfold PtBlk at h ⊢; exact blk_set h rfl
theorem sf36 {T : TypeId} {w : World} {b : Nat} {p : Pt} (h : PtBlk T w b (hf35 p)) : PtBlk T (w.setCell ⟨b, 48, none⟩ (.bool p.heardStp)) b (hf36 p) := by unfold PtBlk at h ⊢; exact blk_set h rfl
theorem sf37 {T : TypeId} {w : World} {b : Nat} {p : Pt} (h : PtBlk T w b (hf36 p)) : PtBlk T (w.setCell ⟨b, 49, none⟩ (.bool p.check)) b (hf37 p) := by unfold PtBlk at h ⊢; exact blk_set h rfl
theorem sf38 {T : TypeId} {w : World} {b : Nat} {p : Pt} (h : PtBlk T w b (hf37 p)) : PtBlk T (w.setCell ⟨b, 50, none⟩ (.int .i64 p.fd)) b (hf38 p) := by unfold PtBlk at h ⊢; exact blk_set h rfl
theorem sf39 {T : TypeId} {w : World} {b : Nat} {p : Pt} (h : PtBlk T w b (hf38 p)) : PtBlk T (w.setCell ⟨b, 51, none⟩ (.int .i64 p.rr)) b (hf39 p) := by unfold PtBlk at h ⊢; exact blk_set h rfl
theorem sf40 {T : TypeId} {w : World} {b : Nat} {p : Pt} (h : PtBlk T w b (hf39 p)) : PtBlk T (w.setCell ⟨b, 52, none⟩ (.int .i64 p.rb)) b (hf40 p) := by unfold PtBlk at h ⊢; exact blk_set h rfl
theorem sf41 {T : TypeId} {w : World} {b : Nat} {p : Pt} (h : PtBlk T w b (hf40 p)) : PtBlk T (w.setCell ⟨b, 53, none⟩ (.int .i64 p.tc)) b (hf41 p) := by unfold PtBlk at h ⊢; exact blk_set h rfl
theorem sf42 {T : TypeId} {w : World} {b : Nat} {p : Pt} (h : PtBlk T w b (hf41 p)) : PtBlk T (w.setCell ⟨b, 54, none⟩ (.int .i64 p.edge)) b (hf42 p) := by unfold PtBlk at h ⊢; exact blk_set h rfl
theorem sf43 {T : TypeId} {w : World} {b : Nat} {p : Pt} (h : PtBlk T w b (hf42 p)) : PtBlk T (w.setCell ⟨b, 55, none⟩ (.int .i64 p.md)) b (hf43 p) := by unfold PtBlk at h ⊢; exact blk_set h rfl
theorem sf44 {T : TypeId} {w : World} {b : Nat} {p : Pt} (h : PtBlk T w b (hf43 p)) : PtBlk T (w.setCell ⟨b, 56, none⟩ (.int .i64 p.info)) b (hf44 p) := by unfold PtBlk at h ⊢; exact blk_set h rfl
theorem sf45 {T : TypeId} {w : World} {b : Nat} {p : Pt} (h : PtBlk T w b (hf44 p)) : PtBlk T (w.setCell ⟨b, 57, none⟩ (.int .i64 p.hello)) b (hf45 p) := by unfold PtBlk at h ⊢; exact blk_set h rfl
theorem sf46 {T : TypeId} {w : World} {b : Nat} {p : Pt} (h : PtBlk T w b (hf45 p)) : PtBlk T (w.setCell ⟨b, 58, none⟩ (.int .i64 p.txCount)) b (hf46 p) := by unfold PtBlk at h ⊢; exact blk_set h rfl
theorem sf47 {T : TypeId} {w : World} {b : Nat} {p : Pt} (h : PtBlk T w b (hf46 p)) : PtBlk T (w.setCell ⟨b, 59, none⟩ (.int .i64 p.change)) b (hf47 p) := by unfold PtBlk at h ⊢; exact blk_set h rfl
theorem sf48 {T : TypeId} {w : World} {b : Nat} {p : Pt} (h : PtBlk T w b (hf47 p)) : PtBlk T (w.setCell ⟨b, 60, none⟩ (.int .i64 p.migrate)) b (hf48 p) := by unfold PtBlk at h ⊢; exact blk_set h rfl
theorem half_all (p : Pt) : hf48 p = p := rfl

set_option maxRecDepth 100000 in
set_option maxHeartbeats 10000000 in
theorem of11_w (p : Pt) (w : World) :
    Calls Try.prog 20 #[.agg (cellsT p)] w fun e w' => e = .returned (.agg (cellsT p)) ∧ Below w.heap.size w w' := by
  obtain ⟨W, nb, HW, HN, k0, k1, kB⟩ : ∃ (W : World) (nb : Nat), Hid (((w.alloc (.cells (cellsT p) 47)).alloc (.cells (cellsT zeroP) 54)) = W) ∧ Hid (w.heap.size = nb) ∧ PtBlk 47 W nb p ∧ PtBlk 54 W (nb + 1) zeroP ∧ Below nb w W :=
    ⟨_, _, Lib.hid rfl, Lib.hid rfl, heap_alloc2_old w _ _, heap_alloc2_new w _ _, bw_alloc (below_box w _) _⟩
  have K0 := Lib.hid k0
  have K1 := Lib.hid k1
  have KB := Lib.hid kB
  have hsz := k1.lt
  have c0 := k0.c_id
  have c1 := k0.c_cost
  have c2 := k0.c_on
  have c3 := k0.c_admin
  have c4 := k0.c_oper
  have c5 := k0.c_source
  have c6 := k0.c_vec_root
  have c7 := k0.c_vec_cost
  have c8 := k0.c_vec_bridge
  have c9 := k0.c_vec_port
  have c10 := k0.c_times_age
  have c11 := k0.c_times_max
  have c12 := k0.c_times_hello
  have c13 := k0.c_times_delay
  have c14 := k0.c_offer_root
  have c15 := k0.c_offer_cost
  have c16 := k0.c_offer_bridge
  have c17 := k0.c_offer_port
  have c18 := k0.c_given_age
  have c19 := k0.c_given_max
  have c20 := k0.c_given_hello
  have c21 := k0.c_given_delay
  have c22 := k0.c_role
  have c23 := k0.c_selected
  have c24 := k0.c_ready
  have c25 := k0.c_update
  have c26 := k0.c_reselect
  clear k0 k1 kB
  go_enter Try.func20, Try.ntmps20
  go_upto_region 1 with (fail)
  refine wp_to (W := W) (by exact HW.out.symm) ?_
  rw [HN.out]
  go_upto_region 2 with (first
    | (with_reducible refine wpList_built rfl 54 _ rfl (cellsT (hf14 p)) (by kernel_rfl) ?_)
    | (refine wpList_store_row rfl 54 _ _ rfl W.heap.size (cellsT (hf14 p)) rfl rfl 54 _ (ptblk_new _ W zeroP) infoRP rfl (cellsT_one (hf14 p)) ?_))
  clear c0 c1 c2 c3 c4 c5 c6 c7 c8 c9 c10 c11 c12 c13 c14 c15 c16 c17 c18 c19 c20 c21 c22 c23 c24 c25 c26
  obtain ⟨V0, HV0⟩ : ∃ V, Hid ((W.alloc (.cells (cellsT zeroP) 54)).setRow W.heap.size (cellsT (hf14 p)) = V) := ⟨_, Lib.hid rfl⟩
  refine wp_to (W := V0) (by exact HV0.out.symm) ?_
  obtain ⟨hb, hhb⟩ : ∃ b, W.heap.size = b := ⟨_, rfl⟩
  have BV : Below W.heap.size W V0 := HV0.out ▸ below_row (below_box W _) (Nat.le_refl _) _
  have H0 := Lib.hid (show PtBlk 54 V0 hb (hf14 p) by rw [← hhb, ← HV0.out]; exact (ptblk_new _ W zeroP).row (hf14 p))
  have A0 := Lib.hid (K0.out.next BV)
  have R0 := Lib.hid (K1.out.next BV)
  have T0 := Lib.hid (KB.out.trans (BV.mono (by omega)))
  have hn1 : ¬ nb = hb := by omega
  have hn2 : ¬ nb + 1 = hb := by omega
  have hnl : nb ≤ hb := by omega
  rw [hhb]
  clear hhb BV HV0 K0 K1 KB HW hsz
  simp only [Act.put]
  have A0d := Lib.hid (show PtBlk 47 V0.drew nb p from A0.out)
  have H0d := Lib.hid (show PtBlk 54 V0.drew hb (hf14 p) from H0.out)
  have R0d := Lib.hid (show PtBlk 54 V0.drew (nb + 1) zeroP from R0.out)
  have T0d := Lib.hid T0.out.drew
  clear A0 H0 R0 T0
  refine wp_region_held_drew (S := fun V => PtBlk 47 V nb p) (by kernel_rfl) A0d.out (fun hHeld => ?_)
  refine wpAnyH_take (i := 0) (oi := ⟨some 35, .fieldAddr 47 (.tmp 1) 15, _, _, _, none⟩) (v := .pointer (some ⟨nb, 27, none⟩)) rfl (by kernel_rfl) (by kernel_rfl) (by kernel_rfl) (fun _ _ _ h => h) (yieldsIf_fld (by kernel_rfl) _ _ _ rfl (.pointer (some ⟨nb, 0, none⟩)) (by kernel_rfl) _ (fun w => by go_simp)) hHeld ?_
  conv =>
    arg 8
    simp only [Act.put, List.setIfInBounds_toArray, List.set_cons_zero, List.set_cons_succ]
  refine wpAnyH_take (i := 1) (oi := ⟨some 36, .load 4 (.tmp 35), _, _, _, none⟩) (v := .bool p.learn) rfl (by kernel_rfl) (by kernel_rfl) (by kernel_rfl) (fun _ _ _ h => h) (yieldsIf_run (by kernel_rfl) _ _ rfl ⟨nb, 27, none⟩ (by kernel_rfl) _ (fun V h => ld_bool h.c_learn)) hHeld ?_
  conv =>
    arg 8
    simp only [Act.put, List.setIfInBounds_toArray, List.set_cons_zero, List.set_cons_succ]
  refine wpAnyH_take (i := 2) (oi := ⟨some 37, .fieldAddr 47 (.tmp 1) 16, _, _, _, none⟩) (v := .pointer (some ⟨nb, 28, none⟩)) rfl (by kernel_rfl) (by kernel_rfl) (by kernel_rfl) (fun _ _ _ h => h) (yieldsIf_fld (by kernel_rfl) _ _ _ rfl (.pointer (some ⟨nb, 0, none⟩)) (by kernel_rfl) _ (fun w => by go_simp)) hHeld ?_
  conv =>
    arg 8
    simp only [Act.put, List.setIfInBounds_toArray, List.set_cons_zero, List.set_cons_succ]
  refine wpAnyH_take (i := 3) (oi := ⟨some 38, .load 4 (.tmp 37), _, _, _, none⟩) (v := .bool p.learning) rfl (by kernel_rfl) (by kernel_rfl) (by kernel_rfl) (fun _ _ _ h => h) (yieldsIf_run (by kernel_rfl) _ _ rfl ⟨nb, 28, none⟩ (by kernel_rfl) _ (fun V h => ld_bool h.c_learning)) hHeld ?_
  conv =>
    arg 8
    simp only [Act.put, List.setIfInBounds_toArray, List.set_cons_zero, List.set_cons_succ]
  refine wpAnyH_take (i := 4) (oi := ⟨some 39, .fieldAddr 47 (.tmp 1) 17, _, _, _, none⟩) (v := .pointer (some ⟨nb, 29, none⟩)) rfl (by kernel_rfl) (by kernel_rfl) (by kernel_rfl) (fun _ _ _ h => h) (yieldsIf_fld (by kernel_rfl) _ _ _ rfl (.pointer (some ⟨nb, 0, none⟩)) (by kernel_rfl) _ (fun w => by go_simp)) hHeld ?_
  conv =>
    arg 8
    simp only [Act.put, List.setIfInBounds_toArray, List.set_cons_zero, List.set_cons_succ]
  refine wpAnyH_take (i := 5) (oi := ⟨some 40, .load 4 (.tmp 39), _, _, _, none⟩) (v := .bool p.forward) rfl (by kernel_rfl) (by kernel_rfl) (by kernel_rfl) (fun _ _ _ h => h) (yieldsIf_run (by kernel_rfl) _ _ rfl ⟨nb, 29, none⟩ (by kernel_rfl) _ (fun V h => ld_bool h.c_forward)) hHeld ?_
  conv =>
    arg 8
    simp only [Act.put, List.setIfInBounds_toArray, List.set_cons_zero, List.set_cons_succ]
  refine wpAnyH_take (i := 6) (oi := ⟨some 41, .fieldAddr 47 (.tmp 1) 18, _, _, _, none⟩) (v := .pointer (some ⟨nb, 30, none⟩)) rfl (by kernel_rfl) (by kernel_rfl) (by kernel_rfl) (fun _ _ _ h => h) (yieldsIf_fld (by kernel_rfl) _ _ _ rfl (.pointer (some ⟨nb, 0, none⟩)) (by kernel_rfl) _ (fun w => by go_simp)) hHeld ?_
  conv =>
    arg 8
    simp only [Act.put, List.setIfInBounds_toArray, List.set_cons_zero, List.set_cons_succ]
  refine wpAnyH_take (i := 7) (oi := ⟨some 42, .load 4 (.tmp 41), _, _, _, none⟩) (v := .bool p.forwarding) rfl (by kernel_rfl) (by kernel_rfl) (by kernel_rfl) (fun _ _ _ h => h) (yieldsIf_run (by kernel_rfl) _ _ rfl ⟨nb, 30, none⟩ (by kernel_rfl) _ (fun V h => ld_bool h.c_forwarding)) hHeld ?_
  conv =>
    arg 8
    simp only [Act.put, List.setIfInBounds_toArray, List.set_cons_zero, List.set_cons_succ]
  refine relist #[true, true, true, true, true, true, true, true, false, false, false, false, false, false, false, false] (by kernel_rfl) ?_
  refine wpAnyH_ready (rs := [8]) (by kernel_rfl) (by simp) ?_
  refine AllReadyH.cons (o := ⟨some 43, .fieldAddr 54 (.tmp 3) 15, _, _, _, none⟩) rfl (fun K hK => ?_) AllReadyH.nil
  refine step_fld (by kernel_rfl) _ _ _ rfl (.pointer (some ⟨hb, 0, none⟩)) (by kernel_rfl) (.pointer (some ⟨hb, 27, none⟩)) (fun w => by go_simp) ?_
  refine hK.out _ _ A0d.out (fun hHeld => ?_)
  clear hK
  refine relist #[true, true, true, true, true, true, true, true, true, false, false, false, false, false, false, false] (by kernel_rfl) ?_
  conv =>
    arg 8
    simp only [Act.put, List.setIfInBounds_toArray, List.set_cons_zero, List.set_cons_succ]
  refine wpAnyH_ready (rs := [9]) (by kernel_rfl) (by simp) ?_
  refine AllReadyH.cons (o := ⟨none, .store 4 (.tmp 43) (.tmp 36), _, _, _, none⟩) rfl (fun K hK => ?_) AllReadyH.nil
  refine step_st1 (by kernel_rfl) _ _ _ rfl ⟨hb, 27, none⟩ (by kernel_rfl) (.bool p.learn) (by kernel_rfl) (st_bool H0d.out.c_learn (H0d.out.free 27)) ?_
  have A0dx := Lib.hid (A0d.out.far 27 (.bool p.learn) hn1)
  have H0dx := Lib.hid (sf15 H0d.out)
  have R0dx := Lib.hid (R0d.out.far 27 (.bool p.learn) hn2)
  have T0dx := Lib.hid (T0d.out.setCell (p := ⟨hb, 27, none⟩) hnl (.bool p.learn))
  refine hK.out _ _ A0dx.out (fun hHeld => ?_)
  clear hK hHeld A0d H0d R0d T0d
  obtain ⟨Y15, hV⟩ : ∃ V, V0.drew.setCell ⟨hb, 27, none⟩ (.bool p.learn) = V := ⟨_, rfl⟩
  rw [hV] at A0dx H0dx R0dx T0dx
  refine any_to hV.symm ?_
  clear hV
  refine relist #[true, true, true, true, true, true, true, true, true, true, false, false, false, false, false, false] (by kernel_rfl) ?_
  conv =>
    arg 8
    simp only [Act.put, List.setIfInBounds_toArray, List.set_cons_zero, List.set_cons_succ]
  refine wpAnyH_ready (rs := [10]) (by kernel_rfl) (by simp) ?_
  refine AllReadyH.cons (o := ⟨some 44, .fieldAddr 54 (.tmp 3) 16, _, _, _, none⟩) rfl (fun K hK => ?_) AllReadyH.nil
  refine step_fld (by kernel_rfl) _ _ _ rfl (.pointer (some ⟨hb, 0, none⟩)) (by kernel_rfl) (.pointer (some ⟨hb, 28, none⟩)) (fun w => by go_simp) ?_
  refine hK.out _ _ A0dx.out (fun hHeld => ?_)
  clear hK
  refine relist #[true, true, true, true, true, true, true, true, true, true, true, false, false, false, false, false] (by kernel_rfl) ?_
  conv =>
    arg 8
    simp only [Act.put, List.setIfInBounds_toArray, List.set_cons_zero, List.set_cons_succ]
  refine wpAnyH_ready (rs := [11]) (by kernel_rfl) (by simp) ?_
  refine AllReadyH.cons (o := ⟨none, .store 4 (.tmp 44) (.tmp 38), _, _, _, none⟩) rfl (fun K hK => ?_) AllReadyH.nil
  refine step_st1 (by kernel_rfl) _ _ _ rfl ⟨hb, 28, none⟩ (by kernel_rfl) (.bool p.learning) (by kernel_rfl) (st_bool H0dx.out.c_learning (H0dx.out.free 28)) ?_
  have A0dxx := Lib.hid (A0dx.out.far 28 (.bool p.learning) hn1)
  have H0dxx := Lib.hid (sf16 H0dx.out)
  have R0dxx := Lib.hid (R0dx.out.far 28 (.bool p.learning) hn2)
  have T0dxx := Lib.hid (T0dx.out.setCell (p := ⟨hb, 28, none⟩) hnl (.bool p.learning))
  refine hK.out _ _ A0dxx.out (fun hHeld => ?_)
  clear hK hHeld A0dx H0dx R0dx T0dx
  obtain ⟨Y16, hV⟩ : ∃ V, Y15.setCell ⟨hb, 28, none⟩ (.bool p.learning) = V := ⟨_, rfl⟩
  rw [hV] at A0dxx H0dxx R0dxx T0dxx
  refine any_to hV.symm ?_
  clear hV
  refine relist #[true, true, true, true, true, true, true, true, true, true, true, true, false, false, false, false] (by kernel_rfl) ?_
  conv =>
    arg 8
    simp only [Act.put, List.setIfInBounds_toArray, List.set_cons_zero, List.set_cons_succ]
  refine wpAnyH_ready (rs := [12]) (by kernel_rfl) (by simp) ?_
  refine AllReadyH.cons (o := ⟨some 45, .fieldAddr 54 (.tmp 3) 17, _, _, _, none⟩) rfl (fun K hK => ?_) AllReadyH.nil
  refine step_fld (by kernel_rfl) _ _ _ rfl (.pointer (some ⟨hb, 0, none⟩)) (by kernel_rfl) (.pointer (some ⟨hb, 29, none⟩)) (fun w => by go_simp) ?_
  refine hK.out _ _ A0dxx.out (fun hHeld => ?_)
  clear hK
  refine relist #[true, true, true, true, true, true, true, true, true, true, true, true, true, false, false, false] (by kernel_rfl) ?_
  conv =>
    arg 8
    simp only [Act.put, List.setIfInBounds_toArray, List.set_cons_zero, List.set_cons_succ]
  refine wpAnyH_ready (rs := [13]) (by kernel_rfl) (by simp) ?_
  refine AllReadyH.cons (o := ⟨none, .store 4 (.tmp 45) (.tmp 40), _, _, _, none⟩) rfl (fun K hK => ?_) AllReadyH.nil
  refine step_st1 (by kernel_rfl) _ _ _ rfl ⟨hb, 29, none⟩ (by kernel_rfl) (.bool p.forward) (by kernel_rfl) (st_bool H0dxx.out.c_forward (H0dxx.out.free 29)) ?_
  have A0dxxx := Lib.hid (A0dxx.out.far 29 (.bool p.forward) hn1)
  have H0dxxx := Lib.hid (sf17 H0dxx.out)
  have R0dxxx := Lib.hid (R0dxx.out.far 29 (.bool p.forward) hn2)
  have T0dxxx := Lib.hid (T0dxx.out.setCell (p := ⟨hb, 29, none⟩) hnl (.bool p.forward))
  refine hK.out _ _ A0dxxx.out (fun hHeld => ?_)
  clear hK hHeld A0dxx H0dxx R0dxx T0dxx
  obtain ⟨Y17, hV⟩ : ∃ V, Y16.setCell ⟨hb, 29, none⟩ (.bool p.forward) = V := ⟨_, rfl⟩
  rw [hV] at A0dxxx H0dxxx R0dxxx T0dxxx
  refine any_to hV.symm ?_
  clear hV
  refine relist #[true, true, true, true, true, true, true, true, true, true, true, true, true, true, false, false] (by kernel_rfl) ?_
  conv =>
    arg 8
    simp only [Act.put, List.setIfInBounds_toArray, List.set_cons_zero, List.set_cons_succ]
  refine wpAnyH_ready (rs := [14]) (by kernel_rfl) (by simp) ?_
  refine AllReadyH.cons (o := ⟨some 46, .fieldAddr 54 (.tmp 3) 18, _, _, _, none⟩) rfl (fun K hK => ?_) AllReadyH.nil
  refine step_fld (by kernel_rfl) _ _ _ rfl (.pointer (some ⟨hb, 0, none⟩)) (by kernel_rfl) (.pointer (some ⟨hb, 30, none⟩)) (fun w => by go_simp) ?_
  refine hK.out _ _ A0dxxx.out (fun hHeld => ?_)
  clear hK
  refine relist #[true, true, true, true, true, true, true, true, true, true, true, true, true, true, true, false] (by kernel_rfl) ?_
  conv =>
    arg 8
    simp only [Act.put, List.setIfInBounds_toArray, List.set_cons_zero, List.set_cons_succ]
  refine wpAnyH_ready (rs := [15]) (by kernel_rfl) (by simp) ?_
  refine AllReadyH.cons (o := ⟨none, .store 4 (.tmp 46) (.tmp 42), _, _, _, none⟩) rfl (fun K hK => ?_) AllReadyH.nil
  refine step_st1 (by kernel_rfl) _ _ _ rfl ⟨hb, 30, none⟩ (by kernel_rfl) (.bool p.forwarding) (by kernel_rfl) (st_bool H0dxxx.out.c_forwarding (H0dxxx.out.free 30)) ?_
  have A0dxxxx := Lib.hid (A0dxxx.out.far 30 (.bool p.forwarding) hn1)
  have H0dxxxx := Lib.hid (sf18 H0dxxx.out)
  have R0dxxxx := Lib.hid (R0dxxx.out.far 30 (.bool p.forwarding) hn2)
  have T0dxxxx := Lib.hid (T0dxxx.out.setCell (p := ⟨hb, 30, none⟩) hnl (.bool p.forwarding))
  refine hK.out _ _ A0dxxxx.out (fun hHeld => ?_)
  clear hK hHeld A0dxxx H0dxxx R0dxxx T0dxxx
  obtain ⟨Y18, hV⟩ : ∃ V, Y17.setCell ⟨hb, 30, none⟩ (.bool p.forwarding) = V := ⟨_, rfl⟩
  rw [hV] at A0dxxxx H0dxxxx R0dxxxx T0dxxxx
  refine any_to hV.symm ?_
  clear hV
  refine relist #[true, true, true, true, true, true, true, true, true, true, true, true, true, true, true, true] (by kernel_rfl) ?_
  conv =>
    arg 8
    simp only [Act.put, List.setIfInBounds_toArray, List.set_cons_zero, List.set_cons_succ]
  refine wpAnyH_done (by kernel_rfl) ?_ _
  have A1 := A0dxxxx
  have H1 := H0dxxxx
  have R1 := R0dxxxx
  have T1 := T0dxxxx
  clear A0dxxxx H0dxxxx R0dxxxx T0dxxxx
  try simp only [Act.put, List.setIfInBounds_toArray, List.set_cons_zero, List.set_cons_succ]
  have A1d := Lib.hid (show PtBlk 47 Y18.drew nb p from A1.out)
  have H1d := Lib.hid (show PtBlk 54 Y18.drew hb (hf18 p) from H1.out)
  have R1d := Lib.hid (show PtBlk 54 Y18.drew (nb + 1) zeroP from R1.out)
  have T1d := Lib.hid T1.out.drew
  clear A1 H1 R1 T1
  go_upto_region 3 with (fail)
  refine wp_region_held_drew (S := fun V => PtBlk 47 V nb p) (by kernel_rfl) A1d.out (fun hHeld => ?_)
  refine wpAnyH_take (i := 0) (oi := ⟨some 47, .fieldAddr 47 (.tmp 1) 19, _, _, _, none⟩) (v := .pointer (some ⟨nb, 31, none⟩)) rfl (by kernel_rfl) (by kernel_rfl) (by kernel_rfl) (fun _ _ _ h => h) (yieldsIf_fld (by kernel_rfl) _ _ _ rfl (.pointer (some ⟨nb, 0, none⟩)) (by kernel_rfl) _ (fun w => by go_simp)) hHeld ?_
  conv =>
    arg 8
    simp only [Act.put, List.setIfInBounds_toArray, List.set_cons_zero, List.set_cons_succ]
  refine wpAnyH_take (i := 1) (oi := ⟨some 48, .load 4 (.tmp 47), _, _, _, none⟩) (v := .bool p.agree) rfl (by kernel_rfl) (by kernel_rfl) (by kernel_rfl) (fun _ _ _ h => h) (yieldsIf_run (by kernel_rfl) _ _ rfl ⟨nb, 31, none⟩ (by kernel_rfl) _ (fun V h => ld_bool h.c_agree)) hHeld ?_
  conv =>
    arg 8
    simp only [Act.put, List.setIfInBounds_toArray, List.set_cons_zero, List.set_cons_succ]
  refine wpAnyH_take (i := 2) (oi := ⟨some 49, .fieldAddr 47 (.tmp 1) 20, _, _, _, none⟩) (v := .pointer (some ⟨nb, 32, none⟩)) rfl (by kernel_rfl) (by kernel_rfl) (by kernel_rfl) (fun _ _ _ h => h) (yieldsIf_fld (by kernel_rfl) _ _ _ rfl (.pointer (some ⟨nb, 0, none⟩)) (by kernel_rfl) _ (fun w => by go_simp)) hHeld ?_
  conv =>
    arg 8
    simp only [Act.put, List.setIfInBounds_toArray, List.set_cons_zero, List.set_cons_succ]
  refine wpAnyH_take (i := 3) (oi := ⟨some 50, .load 4 (.tmp 49), _, _, _, none⟩) (v := .bool p.agreed) rfl (by kernel_rfl) (by kernel_rfl) (by kernel_rfl) (fun _ _ _ h => h) (yieldsIf_run (by kernel_rfl) _ _ rfl ⟨nb, 32, none⟩ (by kernel_rfl) _ (fun V h => ld_bool h.c_agreed)) hHeld ?_
  conv =>
    arg 8
    simp only [Act.put, List.setIfInBounds_toArray, List.set_cons_zero, List.set_cons_succ]
  refine wpAnyH_take (i := 4) (oi := ⟨some 51, .fieldAddr 47 (.tmp 1) 21, _, _, _, none⟩) (v := .pointer (some ⟨nb, 33, none⟩)) rfl (by kernel_rfl) (by kernel_rfl) (by kernel_rfl) (fun _ _ _ h => h) (yieldsIf_fld (by kernel_rfl) _ _ _ rfl (.pointer (some ⟨nb, 0, none⟩)) (by kernel_rfl) _ (fun w => by go_simp)) hHeld ?_
  conv =>
    arg 8
    simp only [Act.put, List.setIfInBounds_toArray, List.set_cons_zero, List.set_cons_succ]
  refine wpAnyH_take (i := 5) (oi := ⟨some 52, .load 4 (.tmp 51), _, _, _, none⟩) (v := .bool p.proposed) rfl (by kernel_rfl) (by kernel_rfl) (by kernel_rfl) (fun _ _ _ h => h) (yieldsIf_run (by kernel_rfl) _ _ rfl ⟨nb, 33, none⟩ (by kernel_rfl) _ (fun V h => ld_bool h.c_proposed)) hHeld ?_
  conv =>
    arg 8
    simp only [Act.put, List.setIfInBounds_toArray, List.set_cons_zero, List.set_cons_succ]
  refine wpAnyH_take (i := 6) (oi := ⟨some 53, .fieldAddr 47 (.tmp 1) 22, _, _, _, none⟩) (v := .pointer (some ⟨nb, 34, none⟩)) rfl (by kernel_rfl) (by kernel_rfl) (by kernel_rfl) (fun _ _ _ h => h) (yieldsIf_fld (by kernel_rfl) _ _ _ rfl (.pointer (some ⟨nb, 0, none⟩)) (by kernel_rfl) _ (fun w => by go_simp)) hHeld ?_
  conv =>
    arg 8
    simp only [Act.put, List.setIfInBounds_toArray, List.set_cons_zero, List.set_cons_succ]
  refine wpAnyH_take (i := 7) (oi := ⟨some 54, .load 4 (.tmp 53), _, _, _, none⟩) (v := .bool p.proposing) rfl (by kernel_rfl) (by kernel_rfl) (by kernel_rfl) (fun _ _ _ h => h) (yieldsIf_run (by kernel_rfl) _ _ rfl ⟨nb, 34, none⟩ (by kernel_rfl) _ (fun V h => ld_bool h.c_proposing)) hHeld ?_
  conv =>
    arg 8
    simp only [Act.put, List.setIfInBounds_toArray, List.set_cons_zero, List.set_cons_succ]
  refine wpAnyH_take (i := 8) (oi := ⟨some 55, .fieldAddr 47 (.tmp 1) 23, _, _, _, none⟩) (v := .pointer (some ⟨nb, 35, none⟩)) rfl (by kernel_rfl) (by kernel_rfl) (by kernel_rfl) (fun _ _ _ h => h) (yieldsIf_fld (by kernel_rfl) _ _ _ rfl (.pointer (some ⟨nb, 0, none⟩)) (by kernel_rfl) _ (fun w => by go_simp)) hHeld ?_
  conv =>
    arg 8
    simp only [Act.put, List.setIfInBounds_toArray, List.set_cons_zero, List.set_cons_succ]
  refine wpAnyH_take (i := 9) (oi := ⟨some 56, .load 4 (.tmp 55), _, _, _, none⟩) (v := .bool p.sync) rfl (by kernel_rfl) (by kernel_rfl) (by kernel_rfl) (fun _ _ _ h => h) (yieldsIf_run (by kernel_rfl) _ _ rfl ⟨nb, 35, none⟩ (by kernel_rfl) _ (fun V h => ld_bool h.c_sync)) hHeld ?_
  conv =>
    arg 8
    simp only [Act.put, List.setIfInBounds_toArray, List.set_cons_zero, List.set_cons_succ]
  refine wpAnyH_take (i := 10) (oi := ⟨some 57, .fieldAddr 47 (.tmp 1) 24, _, _, _, none⟩) (v := .pointer (some ⟨nb, 36, none⟩)) rfl (by kernel_rfl) (by kernel_rfl) (by kernel_rfl) (fun _ _ _ h => h) (yieldsIf_fld (by kernel_rfl) _ _ _ rfl (.pointer (some ⟨nb, 0, none⟩)) (by kernel_rfl) _ (fun w => by go_simp)) hHeld ?_
  conv =>
    arg 8
    simp only [Act.put, List.setIfInBounds_toArray, List.set_cons_zero, List.set_cons_succ]
  refine wpAnyH_take (i := 11) (oi := ⟨some 58, .load 4 (.tmp 57), _, _, _, none⟩) (v := .bool p.synced) rfl (by kernel_rfl) (by kernel_rfl) (by kernel_rfl) (fun _ _ _ h => h) (yieldsIf_run (by kernel_rfl) _ _ rfl ⟨nb, 36, none⟩ (by kernel_rfl) _ (fun V h => ld_bool h.c_synced)) hHeld ?_
  conv =>
    arg 8
    simp only [Act.put, List.setIfInBounds_toArray, List.set_cons_zero, List.set_cons_succ]
  refine wpAnyH_take (i := 12) (oi := ⟨some 59, .fieldAddr 47 (.tmp 1) 25, _, _, _, none⟩) (v := .pointer (some ⟨nb, 37, none⟩)) rfl (by kernel_rfl) (by kernel_rfl) (by kernel_rfl) (fun _ _ _ h => h) (yieldsIf_fld (by kernel_rfl) _ _ _ rfl (.pointer (some ⟨nb, 0, none⟩)) (by kernel_rfl) _ (fun w => by go_simp)) hHeld ?_
  conv =>
    arg 8
    simp only [Act.put, List.setIfInBounds_toArray, List.set_cons_zero, List.set_cons_succ]
  refine wpAnyH_take (i := 13) (oi := ⟨some 60, .load 4 (.tmp 59), _, _, _, none⟩) (v := .bool p.reroot) rfl (by kernel_rfl) (by kernel_rfl) (by kernel_rfl) (fun _ _ _ h => h) (yieldsIf_run (by kernel_rfl) _ _ rfl ⟨nb, 37, none⟩ (by kernel_rfl) _ (fun V h => ld_bool h.c_reroot)) hHeld ?_
  conv =>
    arg 8
    simp only [Act.put, List.setIfInBounds_toArray, List.set_cons_zero, List.set_cons_succ]
  refine wpAnyH_take (i := 14) (oi := ⟨some 61, .fieldAddr 47 (.tmp 1) 26, _, _, _, none⟩) (v := .pointer (some ⟨nb, 38, none⟩)) rfl (by kernel_rfl) (by kernel_rfl) (by kernel_rfl) (fun _ _ _ h => h) (yieldsIf_fld (by kernel_rfl) _ _ _ rfl (.pointer (some ⟨nb, 0, none⟩)) (by kernel_rfl) _ (fun w => by go_simp)) hHeld ?_
  conv =>
    arg 8
    simp only [Act.put, List.setIfInBounds_toArray, List.set_cons_zero, List.set_cons_succ]
  refine wpAnyH_take (i := 15) (oi := ⟨some 62, .load 4 (.tmp 61), _, _, _, none⟩) (v := .bool p.disputed) rfl (by kernel_rfl) (by kernel_rfl) (by kernel_rfl) (fun _ _ _ h => h) (yieldsIf_run (by kernel_rfl) _ _ rfl ⟨nb, 38, none⟩ (by kernel_rfl) _ (fun V h => ld_bool h.c_disputed)) hHeld ?_
  conv =>
    arg 8
    simp only [Act.put, List.setIfInBounds_toArray, List.set_cons_zero, List.set_cons_succ]
  refine relist #[true, true, true, true, true, true, true, true, true, true, true, true, true, true, true, true, false, false, false, false, false, false, false, false, false, false, false, false, false, false, false, false] (by kernel_rfl) ?_
  refine wpAnyH_ready (rs := [16]) (by kernel_rfl) (by simp) ?_
  refine AllReadyH.cons (o := ⟨some 63, .fieldAddr 54 (.tmp 3) 19, _, _, _, none⟩) rfl (fun K hK => ?_) AllReadyH.nil
  refine step_fld (by kernel_rfl) _ _ _ rfl (.pointer (some ⟨hb, 0, none⟩)) (by kernel_rfl) (.pointer (some ⟨hb, 31, none⟩)) (fun w => by go_simp) ?_
  refine hK.out _ _ A1d.out (fun hHeld => ?_)
  clear hK
  refine relist #[true, true, true, true, true, true, true, true, true, true, true, true, true, true, true, true, true, false, false, false, false, false, false, false, false, false, false, false, false, false, false, false] (by kernel_rfl) ?_
  conv =>
    arg 8
    simp only [Act.put, List.setIfInBounds_toArray, List.set_cons_zero, List.set_cons_succ]
  refine wpAnyH_ready (rs := [17]) (by kernel_rfl) (by simp) ?_
  refine AllReadyH.cons (o := ⟨none, .store 4 (.tmp 63) (.tmp 48), _, _, _, none⟩) rfl (fun K hK => ?_) AllReadyH.nil
  refine step_st1 (by kernel_rfl) _ _ _ rfl ⟨hb, 31, none⟩ (by kernel_rfl) (.bool p.agree) (by kernel_rfl) (st_bool H1d.out.c_agree (H1d.out.free 31)) ?_
  have A1dx := Lib.hid (A1d.out.far 31 (.bool p.agree) hn1)
  have H1dx := Lib.hid (sf19 H1d.out)
  have R1dx := Lib.hid (R1d.out.far 31 (.bool p.agree) hn2)
  have T1dx := Lib.hid (T1d.out.setCell (p := ⟨hb, 31, none⟩) hnl (.bool p.agree))
  refine hK.out _ _ A1dx.out (fun hHeld => ?_)
  clear hK hHeld A1d H1d R1d T1d
  obtain ⟨Y19, hV⟩ : ∃ V, Y18.drew.setCell ⟨hb, 31, none⟩ (.bool p.agree) = V := ⟨_, rfl⟩
  rw [hV] at A1dx H1dx R1dx T1dx
  refine any_to hV.symm ?_
  clear hV
  refine relist #[true, true, true, true, true, true, true, true, true, true, true, true, true, true, true, true, true, true, false, false, false, false, false, false, false, false, false, false, false, false, false, false] (by kernel_rfl) ?_
  conv =>
    arg 8
    simp only [Act.put, List.setIfInBounds_toArray, List.set_cons_zero, List.set_cons_succ]
  refine wpAnyH_ready (rs := [18]) (by kernel_rfl) (by simp) ?_
  refine AllReadyH.cons (o := ⟨some 64, .fieldAddr 54 (.tmp 3) 20, _, _, _, none⟩) rfl (fun K hK => ?_) AllReadyH.nil
  refine step_fld (by kernel_rfl) _ _ _ rfl (.pointer (some ⟨hb, 0, none⟩)) (by kernel_rfl) (.pointer (some ⟨hb, 32, none⟩)) (fun w => by go_simp) ?_
  refine hK.out _ _ A1dx.out (fun hHeld => ?_)
  clear hK
  refine relist #[true, true, true, true, true, true, true, true, true, true, true, true, true, true, true, true, true, true, true, false, false, false, false, false, false, false, false, false, false, false, false, false] (by kernel_rfl) ?_
  conv =>
    arg 8
    simp only [Act.put, List.setIfInBounds_toArray, List.set_cons_zero, List.set_cons_succ]
  refine wpAnyH_ready (rs := [19]) (by kernel_rfl) (by simp) ?_
  refine AllReadyH.cons (o := ⟨none, .store 4 (.tmp 64) (.tmp 50), _, _, _, none⟩) rfl (fun K hK => ?_) AllReadyH.nil
  refine step_st1 (by kernel_rfl) _ _ _ rfl ⟨hb, 32, none⟩ (by kernel_rfl) (.bool p.agreed) (by kernel_rfl) (st_bool H1dx.out.c_agreed (H1dx.out.free 32)) ?_
  have A1dxx := Lib.hid (A1dx.out.far 32 (.bool p.agreed) hn1)
  have H1dxx := Lib.hid (sf20 H1dx.out)
  have R1dxx := Lib.hid (R1dx.out.far 32 (.bool p.agreed) hn2)
  have T1dxx := Lib.hid (T1dx.out.setCell (p := ⟨hb, 32, none⟩) hnl (.bool p.agreed))
  refine hK.out _ _ A1dxx.out (fun hHeld => ?_)
  clear hK hHeld A1dx H1dx R1dx T1dx
  obtain ⟨Y20, hV⟩ : ∃ V, Y19.setCell ⟨hb, 32, none⟩ (.bool p.agreed) = V := ⟨_, rfl⟩
  rw [hV] at A1dxx H1dxx R1dxx T1dxx
  refine any_to hV.symm ?_
  clear hV
  refine relist #[true, true, true, true, true, true, true, true, true, true, true, true, true, true, true, true, true, true, true, true, false, false, false, false, false, false, false, false, false, false, false, false] (by kernel_rfl) ?_
  conv =>
    arg 8
    simp only [Act.put, List.setIfInBounds_toArray, List.set_cons_zero, List.set_cons_succ]
  refine wpAnyH_ready (rs := [20]) (by kernel_rfl) (by simp) ?_
  refine AllReadyH.cons (o := ⟨some 65, .fieldAddr 54 (.tmp 3) 21, _, _, _, none⟩) rfl (fun K hK => ?_) AllReadyH.nil
  refine step_fld (by kernel_rfl) _ _ _ rfl (.pointer (some ⟨hb, 0, none⟩)) (by kernel_rfl) (.pointer (some ⟨hb, 33, none⟩)) (fun w => by go_simp) ?_
  refine hK.out _ _ A1dxx.out (fun hHeld => ?_)
  clear hK
  refine relist #[true, true, true, true, true, true, true, true, true, true, true, true, true, true, true, true, true, true, true, true, true, false, false, false, false, false, false, false, false, false, false, false] (by kernel_rfl) ?_
  conv =>
    arg 8
    simp only [Act.put, List.setIfInBounds_toArray, List.set_cons_zero, List.set_cons_succ]
  refine wpAnyH_ready (rs := [21]) (by kernel_rfl) (by simp) ?_
  refine AllReadyH.cons (o := ⟨none, .store 4 (.tmp 65) (.tmp 52), _, _, _, none⟩) rfl (fun K hK => ?_) AllReadyH.nil
  refine step_st1 (by kernel_rfl) _ _ _ rfl ⟨hb, 33, none⟩ (by kernel_rfl) (.bool p.proposed) (by kernel_rfl) (st_bool H1dxx.out.c_proposed (H1dxx.out.free 33)) ?_
  have A1dxxx := Lib.hid (A1dxx.out.far 33 (.bool p.proposed) hn1)
  have H1dxxx := Lib.hid (sf21 H1dxx.out)
  have R1dxxx := Lib.hid (R1dxx.out.far 33 (.bool p.proposed) hn2)
  have T1dxxx := Lib.hid (T1dxx.out.setCell (p := ⟨hb, 33, none⟩) hnl (.bool p.proposed))
  refine hK.out _ _ A1dxxx.out (fun hHeld => ?_)
  clear hK hHeld A1dxx H1dxx R1dxx T1dxx
  obtain ⟨Y21, hV⟩ : ∃ V, Y20.setCell ⟨hb, 33, none⟩ (.bool p.proposed) = V := ⟨_, rfl⟩
  rw [hV] at A1dxxx H1dxxx R1dxxx T1dxxx
  refine any_to hV.symm ?_
  clear hV
  refine relist #[true, true, true, true, true, true, true, true, true, true, true, true, true, true, true, true, true, true, true, true, true, true, false, false, false, false, false, false, false, false, false, false] (by kernel_rfl) ?_
  conv =>
    arg 8
    simp only [Act.put, List.setIfInBounds_toArray, List.set_cons_zero, List.set_cons_succ]
  refine wpAnyH_ready (rs := [22]) (by kernel_rfl) (by simp) ?_
  refine AllReadyH.cons (o := ⟨some 66, .fieldAddr 54 (.tmp 3) 22, _, _, _, none⟩) rfl (fun K hK => ?_) AllReadyH.nil
  refine step_fld (by kernel_rfl) _ _ _ rfl (.pointer (some ⟨hb, 0, none⟩)) (by kernel_rfl) (.pointer (some ⟨hb, 34, none⟩)) (fun w => by go_simp) ?_
  refine hK.out _ _ A1dxxx.out (fun hHeld => ?_)
  clear hK
  refine relist #[true, true, true, true, true, true, true, true, true, true, true, true, true, true, true, true, true, true, true, true, true, true, true, false, false, false, false, false, false, false, false, false] (by kernel_rfl) ?_
  conv =>
    arg 8
    simp only [Act.put, List.setIfInBounds_toArray, List.set_cons_zero, List.set_cons_succ]
  refine wpAnyH_ready (rs := [23]) (by kernel_rfl) (by simp) ?_
  refine AllReadyH.cons (o := ⟨none, .store 4 (.tmp 66) (.tmp 54), _, _, _, none⟩) rfl (fun K hK => ?_) AllReadyH.nil
  refine step_st1 (by kernel_rfl) _ _ _ rfl ⟨hb, 34, none⟩ (by kernel_rfl) (.bool p.proposing) (by kernel_rfl) (st_bool H1dxxx.out.c_proposing (H1dxxx.out.free 34)) ?_
  have A1dxxxx := Lib.hid (A1dxxx.out.far 34 (.bool p.proposing) hn1)
  have H1dxxxx := Lib.hid (sf22 H1dxxx.out)
  have R1dxxxx := Lib.hid (R1dxxx.out.far 34 (.bool p.proposing) hn2)
  have T1dxxxx := Lib.hid (T1dxxx.out.setCell (p := ⟨hb, 34, none⟩) hnl (.bool p.proposing))
  refine hK.out _ _ A1dxxxx.out (fun hHeld => ?_)
  clear hK hHeld A1dxxx H1dxxx R1dxxx T1dxxx
  obtain ⟨Y22, hV⟩ : ∃ V, Y21.setCell ⟨hb, 34, none⟩ (.bool p.proposing) = V := ⟨_, rfl⟩
  rw [hV] at A1dxxxx H1dxxxx R1dxxxx T1dxxxx
  refine any_to hV.symm ?_
  clear hV
  refine relist #[true, true, true, true, true, true, true, true, true, true, true, true, true, true, true, true, true, true, true, true, true, true, true, true, false, false, false, false, false, false, false, false] (by kernel_rfl) ?_
  conv =>
    arg 8
    simp only [Act.put, List.setIfInBounds_toArray, List.set_cons_zero, List.set_cons_succ]
  refine wpAnyH_ready (rs := [24]) (by kernel_rfl) (by simp) ?_
  refine AllReadyH.cons (o := ⟨some 67, .fieldAddr 54 (.tmp 3) 23, _, _, _, none⟩) rfl (fun K hK => ?_) AllReadyH.nil
  refine step_fld (by kernel_rfl) _ _ _ rfl (.pointer (some ⟨hb, 0, none⟩)) (by kernel_rfl) (.pointer (some ⟨hb, 35, none⟩)) (fun w => by go_simp) ?_
  refine hK.out _ _ A1dxxxx.out (fun hHeld => ?_)
  clear hK
  refine relist #[true, true, true, true, true, true, true, true, true, true, true, true, true, true, true, true, true, true, true, true, true, true, true, true, true, false, false, false, false, false, false, false] (by kernel_rfl) ?_
  conv =>
    arg 8
    simp only [Act.put, List.setIfInBounds_toArray, List.set_cons_zero, List.set_cons_succ]
  refine wpAnyH_ready (rs := [25]) (by kernel_rfl) (by simp) ?_
  refine AllReadyH.cons (o := ⟨none, .store 4 (.tmp 67) (.tmp 56), _, _, _, none⟩) rfl (fun K hK => ?_) AllReadyH.nil
  refine step_st1 (by kernel_rfl) _ _ _ rfl ⟨hb, 35, none⟩ (by kernel_rfl) (.bool p.sync) (by kernel_rfl) (st_bool H1dxxxx.out.c_sync (H1dxxxx.out.free 35)) ?_
  have A1dxxxxx := Lib.hid (A1dxxxx.out.far 35 (.bool p.sync) hn1)
  have H1dxxxxx := Lib.hid (sf23 H1dxxxx.out)
  have R1dxxxxx := Lib.hid (R1dxxxx.out.far 35 (.bool p.sync) hn2)
  have T1dxxxxx := Lib.hid (T1dxxxx.out.setCell (p := ⟨hb, 35, none⟩) hnl (.bool p.sync))
  refine hK.out _ _ A1dxxxxx.out (fun hHeld => ?_)
  clear hK hHeld A1dxxxx H1dxxxx R1dxxxx T1dxxxx
  obtain ⟨Y23, hV⟩ : ∃ V, Y22.setCell ⟨hb, 35, none⟩ (.bool p.sync) = V := ⟨_, rfl⟩
  rw [hV] at A1dxxxxx H1dxxxxx R1dxxxxx T1dxxxxx
  refine any_to hV.symm ?_
  clear hV
  refine relist #[true, true, true, true, true, true, true, true, true, true, true, true, true, true, true, true, true, true, true, true, true, true, true, true, true, true, false, false, false, false, false, false] (by kernel_rfl) ?_
  conv =>
    arg 8
    simp only [Act.put, List.setIfInBounds_toArray, List.set_cons_zero, List.set_cons_succ]
  refine wpAnyH_ready (rs := [26]) (by kernel_rfl) (by simp) ?_
  refine AllReadyH.cons (o := ⟨some 68, .fieldAddr 54 (.tmp 3) 24, _, _, _, none⟩) rfl (fun K hK => ?_) AllReadyH.nil
  refine step_fld (by kernel_rfl) _ _ _ rfl (.pointer (some ⟨hb, 0, none⟩)) (by kernel_rfl) (.pointer (some ⟨hb, 36, none⟩)) (fun w => by go_simp) ?_
  refine hK.out _ _ A1dxxxxx.out (fun hHeld => ?_)
  clear hK
  refine relist #[true, true, true, true, true, true, true, true, true, true, true, true, true, true, true, true, true, true, true, true, true, true, true, true, true, true, true, false, false, false, false, false] (by kernel_rfl) ?_
  conv =>
    arg 8
    simp only [Act.put, List.setIfInBounds_toArray, List.set_cons_zero, List.set_cons_succ]
  refine wpAnyH_ready (rs := [27]) (by kernel_rfl) (by simp) ?_
  refine AllReadyH.cons (o := ⟨none, .store 4 (.tmp 68) (.tmp 58), _, _, _, none⟩) rfl (fun K hK => ?_) AllReadyH.nil
  refine step_st1 (by kernel_rfl) _ _ _ rfl ⟨hb, 36, none⟩ (by kernel_rfl) (.bool p.synced) (by kernel_rfl) (st_bool H1dxxxxx.out.c_synced (H1dxxxxx.out.free 36)) ?_
  have A1dxxxxxx := Lib.hid (A1dxxxxx.out.far 36 (.bool p.synced) hn1)
  have H1dxxxxxx := Lib.hid (sf24 H1dxxxxx.out)
  have R1dxxxxxx := Lib.hid (R1dxxxxx.out.far 36 (.bool p.synced) hn2)
  have T1dxxxxxx := Lib.hid (T1dxxxxx.out.setCell (p := ⟨hb, 36, none⟩) hnl (.bool p.synced))
  refine hK.out _ _ A1dxxxxxx.out (fun hHeld => ?_)
  clear hK hHeld A1dxxxxx H1dxxxxx R1dxxxxx T1dxxxxx
  obtain ⟨Y24, hV⟩ : ∃ V, Y23.setCell ⟨hb, 36, none⟩ (.bool p.synced) = V := ⟨_, rfl⟩
  rw [hV] at A1dxxxxxx H1dxxxxxx R1dxxxxxx T1dxxxxxx
  refine any_to hV.symm ?_
  clear hV
  refine relist #[true, true, true, true, true, true, true, true, true, true, true, true, true, true, true, true, true, true, true, true, true, true, true, true, true, true, true, true, false, false, false, false] (by kernel_rfl) ?_
  conv =>
    arg 8
    simp only [Act.put, List.setIfInBounds_toArray, List.set_cons_zero, List.set_cons_succ]
  refine wpAnyH_ready (rs := [28]) (by kernel_rfl) (by simp) ?_
  refine AllReadyH.cons (o := ⟨some 69, .fieldAddr 54 (.tmp 3) 25, _, _, _, none⟩) rfl (fun K hK => ?_) AllReadyH.nil
  refine step_fld (by kernel_rfl) _ _ _ rfl (.pointer (some ⟨hb, 0, none⟩)) (by kernel_rfl) (.pointer (some ⟨hb, 37, none⟩)) (fun w => by go_simp) ?_
  refine hK.out _ _ A1dxxxxxx.out (fun hHeld => ?_)
  clear hK
  refine relist #[true, true, true, true, true, true, true, true, true, true, true, true, true, true, true, true, true, true, true, true, true, true, true, true, true, true, true, true, true, false, false, false] (by kernel_rfl) ?_
  conv =>
    arg 8
    simp only [Act.put, List.setIfInBounds_toArray, List.set_cons_zero, List.set_cons_succ]
  refine wpAnyH_ready (rs := [29]) (by kernel_rfl) (by simp) ?_
  refine AllReadyH.cons (o := ⟨none, .store 4 (.tmp 69) (.tmp 60), _, _, _, none⟩) rfl (fun K hK => ?_) AllReadyH.nil
  refine step_st1 (by kernel_rfl) _ _ _ rfl ⟨hb, 37, none⟩ (by kernel_rfl) (.bool p.reroot) (by kernel_rfl) (st_bool H1dxxxxxx.out.c_reroot (H1dxxxxxx.out.free 37)) ?_
  have A1dxxxxxxx := Lib.hid (A1dxxxxxx.out.far 37 (.bool p.reroot) hn1)
  have H1dxxxxxxx := Lib.hid (sf25 H1dxxxxxx.out)
  have R1dxxxxxxx := Lib.hid (R1dxxxxxx.out.far 37 (.bool p.reroot) hn2)
  have T1dxxxxxxx := Lib.hid (T1dxxxxxx.out.setCell (p := ⟨hb, 37, none⟩) hnl (.bool p.reroot))
  refine hK.out _ _ A1dxxxxxxx.out (fun hHeld => ?_)
  clear hK hHeld A1dxxxxxx H1dxxxxxx R1dxxxxxx T1dxxxxxx
  obtain ⟨Y25, hV⟩ : ∃ V, Y24.setCell ⟨hb, 37, none⟩ (.bool p.reroot) = V := ⟨_, rfl⟩
  rw [hV] at A1dxxxxxxx H1dxxxxxxx R1dxxxxxxx T1dxxxxxxx
  refine any_to hV.symm ?_
  clear hV
  refine relist #[true, true, true, true, true, true, true, true, true, true, true, true, true, true, true, true, true, true, true, true, true, true, true, true, true, true, true, true, true, true, false, false] (by kernel_rfl) ?_
  conv =>
    arg 8
    simp only [Act.put, List.setIfInBounds_toArray, List.set_cons_zero, List.set_cons_succ]
  refine wpAnyH_ready (rs := [30]) (by kernel_rfl) (by simp) ?_
  refine AllReadyH.cons (o := ⟨some 70, .fieldAddr 54 (.tmp 3) 26, _, _, _, none⟩) rfl (fun K hK => ?_) AllReadyH.nil
  refine step_fld (by kernel_rfl) _ _ _ rfl (.pointer (some ⟨hb, 0, none⟩)) (by kernel_rfl) (.pointer (some ⟨hb, 38, none⟩)) (fun w => by go_simp) ?_
  refine hK.out _ _ A1dxxxxxxx.out (fun hHeld => ?_)
  clear hK
  refine relist #[true, true, true, true, true, true, true, true, true, true, true, true, true, true, true, true, true, true, true, true, true, true, true, true, true, true, true, true, true, true, true, false] (by kernel_rfl) ?_
  conv =>
    arg 8
    simp only [Act.put, List.setIfInBounds_toArray, List.set_cons_zero, List.set_cons_succ]
  refine wpAnyH_ready (rs := [31]) (by kernel_rfl) (by simp) ?_
  refine AllReadyH.cons (o := ⟨none, .store 4 (.tmp 70) (.tmp 62), _, _, _, none⟩) rfl (fun K hK => ?_) AllReadyH.nil
  refine step_st1 (by kernel_rfl) _ _ _ rfl ⟨hb, 38, none⟩ (by kernel_rfl) (.bool p.disputed) (by kernel_rfl) (st_bool H1dxxxxxxx.out.c_disputed (H1dxxxxxxx.out.free 38)) ?_
  have A1dxxxxxxxx := Lib.hid (A1dxxxxxxx.out.far 38 (.bool p.disputed) hn1)
  have H1dxxxxxxxx := Lib.hid (sf26 H1dxxxxxxx.out)
  have R1dxxxxxxxx := Lib.hid (R1dxxxxxxx.out.far 38 (.bool p.disputed) hn2)
  have T1dxxxxxxxx := Lib.hid (T1dxxxxxxx.out.setCell (p := ⟨hb, 38, none⟩) hnl (.bool p.disputed))
  refine hK.out _ _ A1dxxxxxxxx.out (fun hHeld => ?_)
  clear hK hHeld A1dxxxxxxx H1dxxxxxxx R1dxxxxxxx T1dxxxxxxx
  obtain ⟨Y26, hV⟩ : ∃ V, Y25.setCell ⟨hb, 38, none⟩ (.bool p.disputed) = V := ⟨_, rfl⟩
  rw [hV] at A1dxxxxxxxx H1dxxxxxxxx R1dxxxxxxxx T1dxxxxxxxx
  refine any_to hV.symm ?_
  clear hV
  refine relist #[true, true, true, true, true, true, true, true, true, true, true, true, true, true, true, true, true, true, true, true, true, true, true, true, true, true, true, true, true, true, true, true] (by kernel_rfl) ?_
  conv =>
    arg 8
    simp only [Act.put, List.setIfInBounds_toArray, List.set_cons_zero, List.set_cons_succ]
  refine wpAnyH_done (by kernel_rfl) ?_ _
  have A2 := A1dxxxxxxxx
  have H2 := H1dxxxxxxxx
  have R2 := R1dxxxxxxxx
  have T2 := T1dxxxxxxxx
  clear A1dxxxxxxxx H1dxxxxxxxx R1dxxxxxxxx T1dxxxxxxxx
  try simp only [Act.put, List.setIfInBounds_toArray, List.set_cons_zero, List.set_cons_succ]
  have A2d := Lib.hid (show PtBlk 47 Y26.drew nb p from A2.out)
  have H2d := Lib.hid (show PtBlk 54 Y26.drew hb (hf26 p) from H2.out)
  have R2d := Lib.hid (show PtBlk 54 Y26.drew (nb + 1) zeroP from R2.out)
  have T2d := Lib.hid T2.out.drew
  clear A2 H2 R2 T2
  go_upto_region 4 with (fail)
  refine wp_region_held_drew (S := fun V => PtBlk 47 V nb p) (by kernel_rfl) A2d.out (fun hHeld => ?_)
  refine wpAnyH_take (i := 0) (oi := ⟨some 71, .fieldAddr 47 (.tmp 1) 27, _, _, _, none⟩) (v := .pointer (some ⟨nb, 39, none⟩)) rfl (by kernel_rfl) (by kernel_rfl) (by kernel_rfl) (fun _ _ _ h => h) (yieldsIf_fld (by kernel_rfl) _ _ _ rfl (.pointer (some ⟨nb, 0, none⟩)) (by kernel_rfl) _ (fun w => by go_simp)) hHeld ?_
  conv =>
    arg 8
    simp only [Act.put, List.setIfInBounds_toArray, List.set_cons_zero, List.set_cons_succ]
  refine wpAnyH_take (i := 1) (oi := ⟨some 72, .load 4 (.tmp 71), _, _, _, none⟩) (v := .bool p.newInfo) rfl (by kernel_rfl) (by kernel_rfl) (by kernel_rfl) (fun _ _ _ h => h) (yieldsIf_run (by kernel_rfl) _ _ rfl ⟨nb, 39, none⟩ (by kernel_rfl) _ (fun V h => ld_bool h.c_newInfo)) hHeld ?_
  conv =>
    arg 8
    simp only [Act.put, List.setIfInBounds_toArray, List.set_cons_zero, List.set_cons_succ]
  refine wpAnyH_take (i := 2) (oi := ⟨some 73, .fieldAddr 47 (.tmp 1) 28, _, _, _, none⟩) (v := .pointer (some ⟨nb, 40, none⟩)) rfl (by kernel_rfl) (by kernel_rfl) (by kernel_rfl) (fun _ _ _ h => h) (yieldsIf_fld (by kernel_rfl) _ _ _ rfl (.pointer (some ⟨nb, 0, none⟩)) (by kernel_rfl) _ (fun w => by go_simp)) hHeld ?_
  conv =>
    arg 8
    simp only [Act.put, List.setIfInBounds_toArray, List.set_cons_zero, List.set_cons_succ]
  refine wpAnyH_take (i := 3) (oi := ⟨some 74, .load 4 (.tmp 73), _, _, _, none⟩) (v := .bool p.heardTc) rfl (by kernel_rfl) (by kernel_rfl) (by kernel_rfl) (fun _ _ _ h => h) (yieldsIf_run (by kernel_rfl) _ _ rfl ⟨nb, 40, none⟩ (by kernel_rfl) _ (fun V h => ld_bool h.c_heardTc)) hHeld ?_
  conv =>
    arg 8
    simp only [Act.put, List.setIfInBounds_toArray, List.set_cons_zero, List.set_cons_succ]
  refine wpAnyH_take (i := 4) (oi := ⟨some 75, .fieldAddr 47 (.tmp 1) 29, _, _, _, none⟩) (v := .pointer (some ⟨nb, 41, none⟩)) rfl (by kernel_rfl) (by kernel_rfl) (by kernel_rfl) (fun _ _ _ h => h) (yieldsIf_fld (by kernel_rfl) _ _ _ rfl (.pointer (some ⟨nb, 0, none⟩)) (by kernel_rfl) _ (fun w => by go_simp)) hHeld ?_
  conv =>
    arg 8
    simp only [Act.put, List.setIfInBounds_toArray, List.set_cons_zero, List.set_cons_succ]
  refine wpAnyH_take (i := 5) (oi := ⟨some 76, .load 4 (.tmp 75), _, _, _, none⟩) (v := .bool p.heardTcn) rfl (by kernel_rfl) (by kernel_rfl) (by kernel_rfl) (fun _ _ _ h => h) (yieldsIf_run (by kernel_rfl) _ _ rfl ⟨nb, 41, none⟩ (by kernel_rfl) _ (fun V h => ld_bool h.c_heardTcn)) hHeld ?_
  conv =>
    arg 8
    simp only [Act.put, List.setIfInBounds_toArray, List.set_cons_zero, List.set_cons_succ]
  refine wpAnyH_take (i := 6) (oi := ⟨some 77, .fieldAddr 47 (.tmp 1) 30, _, _, _, none⟩) (v := .pointer (some ⟨nb, 42, none⟩)) rfl (by kernel_rfl) (by kernel_rfl) (by kernel_rfl) (fun _ _ _ h => h) (yieldsIf_fld (by kernel_rfl) _ _ _ rfl (.pointer (some ⟨nb, 0, none⟩)) (by kernel_rfl) _ (fun w => by go_simp)) hHeld ?_
  conv =>
    arg 8
    simp only [Act.put, List.setIfInBounds_toArray, List.set_cons_zero, List.set_cons_succ]
  refine wpAnyH_take (i := 7) (oi := ⟨some 78, .load 4 (.tmp 77), _, _, _, none⟩) (v := .bool p.heardAck) rfl (by kernel_rfl) (by kernel_rfl) (by kernel_rfl) (fun _ _ _ h => h) (yieldsIf_run (by kernel_rfl) _ _ rfl ⟨nb, 42, none⟩ (by kernel_rfl) _ (fun V h => ld_bool h.c_heardAck)) hHeld ?_
  conv =>
    arg 8
    simp only [Act.put, List.setIfInBounds_toArray, List.set_cons_zero, List.set_cons_succ]
  refine wpAnyH_take (i := 8) (oi := ⟨some 79, .fieldAddr 47 (.tmp 1) 31, _, _, _, none⟩) (v := .pointer (some ⟨nb, 43, none⟩)) rfl (by kernel_rfl) (by kernel_rfl) (by kernel_rfl) (fun _ _ _ h => h) (yieldsIf_fld (by kernel_rfl) _ _ _ rfl (.pointer (some ⟨nb, 0, none⟩)) (by kernel_rfl) _ (fun w => by go_simp)) hHeld ?_
  conv =>
    arg 8
    simp only [Act.put, List.setIfInBounds_toArray, List.set_cons_zero, List.set_cons_succ]
  refine wpAnyH_take (i := 9) (oi := ⟨some 80, .load 4 (.tmp 79), _, _, _, none⟩) (v := .bool p.tcAck) rfl (by kernel_rfl) (by kernel_rfl) (by kernel_rfl) (fun _ _ _ h => h) (yieldsIf_run (by kernel_rfl) _ _ rfl ⟨nb, 43, none⟩ (by kernel_rfl) _ (fun V h => ld_bool h.c_tcAck)) hHeld ?_
  conv =>
    arg 8
    simp only [Act.put, List.setIfInBounds_toArray, List.set_cons_zero, List.set_cons_succ]
  refine wpAnyH_take (i := 10) (oi := ⟨some 81, .fieldAddr 47 (.tmp 1) 32, _, _, _, none⟩) (v := .pointer (some ⟨nb, 44, none⟩)) rfl (by kernel_rfl) (by kernel_rfl) (by kernel_rfl) (fun _ _ _ h => h) (yieldsIf_fld (by kernel_rfl) _ _ _ rfl (.pointer (some ⟨nb, 0, none⟩)) (by kernel_rfl) _ (fun w => by go_simp)) hHeld ?_
  conv =>
    arg 8
    simp only [Act.put, List.setIfInBounds_toArray, List.set_cons_zero, List.set_cons_succ]
  refine wpAnyH_take (i := 11) (oi := ⟨some 82, .load 4 (.tmp 81), _, _, _, none⟩) (v := .bool p.tcProp) rfl (by kernel_rfl) (by kernel_rfl) (by kernel_rfl) (fun _ _ _ h => h) (yieldsIf_run (by kernel_rfl) _ _ rfl ⟨nb, 44, none⟩ (by kernel_rfl) _ (fun V h => ld_bool h.c_tcProp)) hHeld ?_
  conv =>
    arg 8
    simp only [Act.put, List.setIfInBounds_toArray, List.set_cons_zero, List.set_cons_succ]
  refine wpAnyH_take (i := 12) (oi := ⟨some 83, .fieldAddr 47 (.tmp 1) 33, _, _, _, none⟩) (v := .pointer (some ⟨nb, 45, none⟩)) rfl (by kernel_rfl) (by kernel_rfl) (by kernel_rfl) (fun _ _ _ h => h) (yieldsIf_fld (by kernel_rfl) _ _ _ rfl (.pointer (some ⟨nb, 0, none⟩)) (by kernel_rfl) _ (fun w => by go_simp)) hHeld ?_
  conv =>
    arg 8
    simp only [Act.put, List.setIfInBounds_toArray, List.set_cons_zero, List.set_cons_succ]
  refine wpAnyH_take (i := 13) (oi := ⟨some 84, .load 4 (.tmp 83), _, _, _, none⟩) (v := .bool p.flush) rfl (by kernel_rfl) (by kernel_rfl) (by kernel_rfl) (fun _ _ _ h => h) (yieldsIf_run (by kernel_rfl) _ _ rfl ⟨nb, 45, none⟩ (by kernel_rfl) _ (fun V h => ld_bool h.c_flush)) hHeld ?_
  conv =>
    arg 8
    simp only [Act.put, List.setIfInBounds_toArray, List.set_cons_zero, List.set_cons_succ]
  refine relist #[true, true, true, true, true, true, true, true, true, true, true, true, true, true, false, false, false, false, false, false, false, false, false, false, false, false, false, false] (by kernel_rfl) ?_
  refine wpAnyH_ready (rs := [14]) (by kernel_rfl) (by simp) ?_
  refine AllReadyH.cons (o := ⟨some 85, .fieldAddr 54 (.tmp 3) 27, _, _, _, none⟩) rfl (fun K hK => ?_) AllReadyH.nil
  refine step_fld (by kernel_rfl) _ _ _ rfl (.pointer (some ⟨hb, 0, none⟩)) (by kernel_rfl) (.pointer (some ⟨hb, 39, none⟩)) (fun w => by go_simp) ?_
  refine hK.out _ _ A2d.out (fun hHeld => ?_)
  clear hK
  refine relist #[true, true, true, true, true, true, true, true, true, true, true, true, true, true, true, false, false, false, false, false, false, false, false, false, false, false, false, false] (by kernel_rfl) ?_
  conv =>
    arg 8
    simp only [Act.put, List.setIfInBounds_toArray, List.set_cons_zero, List.set_cons_succ]
  refine wpAnyH_ready (rs := [15]) (by kernel_rfl) (by simp) ?_
  refine AllReadyH.cons (o := ⟨none, .store 4 (.tmp 85) (.tmp 72), _, _, _, none⟩) rfl (fun K hK => ?_) AllReadyH.nil
  refine step_st1 (by kernel_rfl) _ _ _ rfl ⟨hb, 39, none⟩ (by kernel_rfl) (.bool p.newInfo) (by kernel_rfl) (st_bool H2d.out.c_newInfo (H2d.out.free 39)) ?_
  have A2dx := Lib.hid (A2d.out.far 39 (.bool p.newInfo) hn1)
  have H2dx := Lib.hid (sf27 H2d.out)
  have R2dx := Lib.hid (R2d.out.far 39 (.bool p.newInfo) hn2)
  have T2dx := Lib.hid (T2d.out.setCell (p := ⟨hb, 39, none⟩) hnl (.bool p.newInfo))
  refine hK.out _ _ A2dx.out (fun hHeld => ?_)
  clear hK hHeld A2d H2d R2d T2d
  obtain ⟨Y27, hV⟩ : ∃ V, Y26.drew.setCell ⟨hb, 39, none⟩ (.bool p.newInfo) = V := ⟨_, rfl⟩
  rw [hV] at A2dx H2dx R2dx T2dx
  refine any_to hV.symm ?_
  clear hV
  refine relist #[true, true, true, true, true, true, true, true, true, true, true, true, true, true, true, true, false, false, false, false, false, false, false, false, false, false, false, false] (by kernel_rfl) ?_
  conv =>
    arg 8
    simp only [Act.put, List.setIfInBounds_toArray, List.set_cons_zero, List.set_cons_succ]
  refine wpAnyH_ready (rs := [16]) (by kernel_rfl) (by simp) ?_
  refine AllReadyH.cons (o := ⟨some 86, .fieldAddr 54 (.tmp 3) 28, _, _, _, none⟩) rfl (fun K hK => ?_) AllReadyH.nil
  refine step_fld (by kernel_rfl) _ _ _ rfl (.pointer (some ⟨hb, 0, none⟩)) (by kernel_rfl) (.pointer (some ⟨hb, 40, none⟩)) (fun w => by go_simp) ?_
  refine hK.out _ _ A2dx.out (fun hHeld => ?_)
  clear hK
  refine relist #[true, true, true, true, true, true, true, true, true, true, true, true, true, true, true, true, true, false, false, false, false, false, false, false, false, false, false, false] (by kernel_rfl) ?_
  conv =>
    arg 8
    simp only [Act.put, List.setIfInBounds_toArray, List.set_cons_zero, List.set_cons_succ]
  refine wpAnyH_ready (rs := [17]) (by kernel_rfl) (by simp) ?_
  refine AllReadyH.cons (o := ⟨none, .store 4 (.tmp 86) (.tmp 74), _, _, _, none⟩) rfl (fun K hK => ?_) AllReadyH.nil
  refine step_st1 (by kernel_rfl) _ _ _ rfl ⟨hb, 40, none⟩ (by kernel_rfl) (.bool p.heardTc) (by kernel_rfl) (st_bool H2dx.out.c_heardTc (H2dx.out.free 40)) ?_
  have A2dxx := Lib.hid (A2dx.out.far 40 (.bool p.heardTc) hn1)
  have H2dxx := Lib.hid (sf28 H2dx.out)
  have R2dxx := Lib.hid (R2dx.out.far 40 (.bool p.heardTc) hn2)
  have T2dxx := Lib.hid (T2dx.out.setCell (p := ⟨hb, 40, none⟩) hnl (.bool p.heardTc))
  refine hK.out _ _ A2dxx.out (fun hHeld => ?_)
  clear hK hHeld A2dx H2dx R2dx T2dx
  obtain ⟨Y28, hV⟩ : ∃ V, Y27.setCell ⟨hb, 40, none⟩ (.bool p.heardTc) = V := ⟨_, rfl⟩
  rw [hV] at A2dxx H2dxx R2dxx T2dxx
  refine any_to hV.symm ?_
  clear hV
  refine relist #[true, true, true, true, true, true, true, true, true, true, true, true, true, true, true, true, true, true, false, false, false, false, false, false, false, false, false, false] (by kernel_rfl) ?_
  conv =>
    arg 8
    simp only [Act.put, List.setIfInBounds_toArray, List.set_cons_zero, List.set_cons_succ]
  refine wpAnyH_ready (rs := [18]) (by kernel_rfl) (by simp) ?_
  refine AllReadyH.cons (o := ⟨some 87, .fieldAddr 54 (.tmp 3) 29, _, _, _, none⟩) rfl (fun K hK => ?_) AllReadyH.nil
  refine step_fld (by kernel_rfl) _ _ _ rfl (.pointer (some ⟨hb, 0, none⟩)) (by kernel_rfl) (.pointer (some ⟨hb, 41, none⟩)) (fun w => by go_simp) ?_
  refine hK.out _ _ A2dxx.out (fun hHeld => ?_)
  clear hK
  refine relist #[true, true, true, true, true, true, true, true, true, true, true, true, true, true, true, true, true, true, true, false, false, false, false, false, false, false, false, false] (by kernel_rfl) ?_
  conv =>
    arg 8
    simp only [Act.put, List.setIfInBounds_toArray, List.set_cons_zero, List.set_cons_succ]
  refine wpAnyH_ready (rs := [19]) (by kernel_rfl) (by simp) ?_
  refine AllReadyH.cons (o := ⟨none, .store 4 (.tmp 87) (.tmp 76), _, _, _, none⟩) rfl (fun K hK => ?_) AllReadyH.nil
  refine step_st1 (by kernel_rfl) _ _ _ rfl ⟨hb, 41, none⟩ (by kernel_rfl) (.bool p.heardTcn) (by kernel_rfl) (st_bool H2dxx.out.c_heardTcn (H2dxx.out.free 41)) ?_
  have A2dxxx := Lib.hid (A2dxx.out.far 41 (.bool p.heardTcn) hn1)
  have H2dxxx := Lib.hid (sf29 H2dxx.out)
  have R2dxxx := Lib.hid (R2dxx.out.far 41 (.bool p.heardTcn) hn2)
  have T2dxxx := Lib.hid (T2dxx.out.setCell (p := ⟨hb, 41, none⟩) hnl (.bool p.heardTcn))
  refine hK.out _ _ A2dxxx.out (fun hHeld => ?_)
  clear hK hHeld A2dxx H2dxx R2dxx T2dxx
  obtain ⟨Y29, hV⟩ : ∃ V, Y28.setCell ⟨hb, 41, none⟩ (.bool p.heardTcn) = V := ⟨_, rfl⟩
  rw [hV] at A2dxxx H2dxxx R2dxxx T2dxxx
  refine any_to hV.symm ?_
  clear hV
  refine relist #[true, true, true, true, true, true, true, true, true, true, true, true, true, true, true, true, true, true, true, true, false, false, false, false, false, false, false, false] (by kernel_rfl) ?_
  conv =>
    arg 8
    simp only [Act.put, List.setIfInBounds_toArray, List.set_cons_zero, List.set_cons_succ]
  refine wpAnyH_ready (rs := [20]) (by kernel_rfl) (by simp) ?_
  refine AllReadyH.cons (o := ⟨some 88, .fieldAddr 54 (.tmp 3) 30, _, _, _, none⟩) rfl (fun K hK => ?_) AllReadyH.nil
  refine step_fld (by kernel_rfl) _ _ _ rfl (.pointer (some ⟨hb, 0, none⟩)) (by kernel_rfl) (.pointer (some ⟨hb, 42, none⟩)) (fun w => by go_simp) ?_
  refine hK.out _ _ A2dxxx.out (fun hHeld => ?_)
  clear hK
  refine relist #[true, true, true, true, true, true, true, true, true, true, true, true, true, true, true, true, true, true, true, true, true, false, false, false, false, false, false, false] (by kernel_rfl) ?_
  conv =>
    arg 8
    simp only [Act.put, List.setIfInBounds_toArray, List.set_cons_zero, List.set_cons_succ]
  refine wpAnyH_ready (rs := [21]) (by kernel_rfl) (by simp) ?_
  refine AllReadyH.cons (o := ⟨none, .store 4 (.tmp 88) (.tmp 78), _, _, _, none⟩) rfl (fun K hK => ?_) AllReadyH.nil
  refine step_st1 (by kernel_rfl) _ _ _ rfl ⟨hb, 42, none⟩ (by kernel_rfl) (.bool p.heardAck) (by kernel_rfl) (st_bool H2dxxx.out.c_heardAck (H2dxxx.out.free 42)) ?_
  have A2dxxxx := Lib.hid (A2dxxx.out.far 42 (.bool p.heardAck) hn1)
  have H2dxxxx := Lib.hid (sf30 H2dxxx.out)
  have R2dxxxx := Lib.hid (R2dxxx.out.far 42 (.bool p.heardAck) hn2)
  have T2dxxxx := Lib.hid (T2dxxx.out.setCell (p := ⟨hb, 42, none⟩) hnl (.bool p.heardAck))
  refine hK.out _ _ A2dxxxx.out (fun hHeld => ?_)
  clear hK hHeld A2dxxx H2dxxx R2dxxx T2dxxx
  obtain ⟨Y30, hV⟩ : ∃ V, Y29.setCell ⟨hb, 42, none⟩ (.bool p.heardAck) = V := ⟨_, rfl⟩
  rw [hV] at A2dxxxx H2dxxxx R2dxxxx T2dxxxx
  refine any_to hV.symm ?_
  clear hV
  refine relist #[true, true, true, true, true, true, true, true, true, true, true, true, true, true, true, true, true, true, true, true, true, true, false, false, false, false, false, false] (by kernel_rfl) ?_
  conv =>
    arg 8
    simp only [Act.put, List.setIfInBounds_toArray, List.set_cons_zero, List.set_cons_succ]
  refine wpAnyH_ready (rs := [22]) (by kernel_rfl) (by simp) ?_
  refine AllReadyH.cons (o := ⟨some 89, .fieldAddr 54 (.tmp 3) 31, _, _, _, none⟩) rfl (fun K hK => ?_) AllReadyH.nil
  refine step_fld (by kernel_rfl) _ _ _ rfl (.pointer (some ⟨hb, 0, none⟩)) (by kernel_rfl) (.pointer (some ⟨hb, 43, none⟩)) (fun w => by go_simp) ?_
  refine hK.out _ _ A2dxxxx.out (fun hHeld => ?_)
  clear hK
  refine relist #[true, true, true, true, true, true, true, true, true, true, true, true, true, true, true, true, true, true, true, true, true, true, true, false, false, false, false, false] (by kernel_rfl) ?_
  conv =>
    arg 8
    simp only [Act.put, List.setIfInBounds_toArray, List.set_cons_zero, List.set_cons_succ]
  refine wpAnyH_ready (rs := [23]) (by kernel_rfl) (by simp) ?_
  refine AllReadyH.cons (o := ⟨none, .store 4 (.tmp 89) (.tmp 80), _, _, _, none⟩) rfl (fun K hK => ?_) AllReadyH.nil
  refine step_st1 (by kernel_rfl) _ _ _ rfl ⟨hb, 43, none⟩ (by kernel_rfl) (.bool p.tcAck) (by kernel_rfl) (st_bool H2dxxxx.out.c_tcAck (H2dxxxx.out.free 43)) ?_
  have A2dxxxxx := Lib.hid (A2dxxxx.out.far 43 (.bool p.tcAck) hn1)
  have H2dxxxxx := Lib.hid (sf31 H2dxxxx.out)
  have R2dxxxxx := Lib.hid (R2dxxxx.out.far 43 (.bool p.tcAck) hn2)
  have T2dxxxxx := Lib.hid (T2dxxxx.out.setCell (p := ⟨hb, 43, none⟩) hnl (.bool p.tcAck))
  refine hK.out _ _ A2dxxxxx.out (fun hHeld => ?_)
  clear hK hHeld A2dxxxx H2dxxxx R2dxxxx T2dxxxx
  obtain ⟨Y31, hV⟩ : ∃ V, Y30.setCell ⟨hb, 43, none⟩ (.bool p.tcAck) = V := ⟨_, rfl⟩
  rw [hV] at A2dxxxxx H2dxxxxx R2dxxxxx T2dxxxxx
  refine any_to hV.symm ?_
  clear hV
  refine relist #[true, true, true, true, true, true, true, true, true, true, true, true, true, true, true, true, true, true, true, true, true, true, true, true, false, false, false, false] (by kernel_rfl) ?_
  conv =>
    arg 8
    simp only [Act.put, List.setIfInBounds_toArray, List.set_cons_zero, List.set_cons_succ]
  refine wpAnyH_ready (rs := [24]) (by kernel_rfl) (by simp) ?_
  refine AllReadyH.cons (o := ⟨some 90, .fieldAddr 54 (.tmp 3) 32, _, _, _, none⟩) rfl (fun K hK => ?_) AllReadyH.nil
  refine step_fld (by kernel_rfl) _ _ _ rfl (.pointer (some ⟨hb, 0, none⟩)) (by kernel_rfl) (.pointer (some ⟨hb, 44, none⟩)) (fun w => by go_simp) ?_
  refine hK.out _ _ A2dxxxxx.out (fun hHeld => ?_)
  clear hK
  refine relist #[true, true, true, true, true, true, true, true, true, true, true, true, true, true, true, true, true, true, true, true, true, true, true, true, true, false, false, false] (by kernel_rfl) ?_
  conv =>
    arg 8
    simp only [Act.put, List.setIfInBounds_toArray, List.set_cons_zero, List.set_cons_succ]
  refine wpAnyH_ready (rs := [25]) (by kernel_rfl) (by simp) ?_
  refine AllReadyH.cons (o := ⟨none, .store 4 (.tmp 90) (.tmp 82), _, _, _, none⟩) rfl (fun K hK => ?_) AllReadyH.nil
  refine step_st1 (by kernel_rfl) _ _ _ rfl ⟨hb, 44, none⟩ (by kernel_rfl) (.bool p.tcProp) (by kernel_rfl) (st_bool H2dxxxxx.out.c_tcProp (H2dxxxxx.out.free 44)) ?_
  have A2dxxxxxx := Lib.hid (A2dxxxxx.out.far 44 (.bool p.tcProp) hn1)
  have H2dxxxxxx := Lib.hid (sf32 H2dxxxxx.out)
  have R2dxxxxxx := Lib.hid (R2dxxxxx.out.far 44 (.bool p.tcProp) hn2)
  have T2dxxxxxx := Lib.hid (T2dxxxxx.out.setCell (p := ⟨hb, 44, none⟩) hnl (.bool p.tcProp))
  refine hK.out _ _ A2dxxxxxx.out (fun hHeld => ?_)
  clear hK hHeld A2dxxxxx H2dxxxxx R2dxxxxx T2dxxxxx
  obtain ⟨Y32, hV⟩ : ∃ V, Y31.setCell ⟨hb, 44, none⟩ (.bool p.tcProp) = V := ⟨_, rfl⟩
  rw [hV] at A2dxxxxxx H2dxxxxxx R2dxxxxxx T2dxxxxxx
  refine any_to hV.symm ?_
  clear hV
  refine relist #[true, true, true, true, true, true, true, true, true, true, true, true, true, true, true, true, true, true, true, true, true, true, true, true, true, true, false, false] (by kernel_rfl) ?_
  conv =>
    arg 8
    simp only [Act.put, List.setIfInBounds_toArray, List.set_cons_zero, List.set_cons_succ]
  refine wpAnyH_ready (rs := [26]) (by kernel_rfl) (by simp) ?_
  refine AllReadyH.cons (o := ⟨some 91, .fieldAddr 54 (.tmp 3) 33, _, _, _, none⟩) rfl (fun K hK => ?_) AllReadyH.nil
  refine step_fld (by kernel_rfl) _ _ _ rfl (.pointer (some ⟨hb, 0, none⟩)) (by kernel_rfl) (.pointer (some ⟨hb, 45, none⟩)) (fun w => by go_simp) ?_
  refine hK.out _ _ A2dxxxxxx.out (fun hHeld => ?_)
  clear hK
  refine relist #[true, true, true, true, true, true, true, true, true, true, true, true, true, true, true, true, true, true, true, true, true, true, true, true, true, true, true, false] (by kernel_rfl) ?_
  conv =>
    arg 8
    simp only [Act.put, List.setIfInBounds_toArray, List.set_cons_zero, List.set_cons_succ]
  refine wpAnyH_ready (rs := [27]) (by kernel_rfl) (by simp) ?_
  refine AllReadyH.cons (o := ⟨none, .store 4 (.tmp 91) (.tmp 84), _, _, _, none⟩) rfl (fun K hK => ?_) AllReadyH.nil
  refine step_st1 (by kernel_rfl) _ _ _ rfl ⟨hb, 45, none⟩ (by kernel_rfl) (.bool p.flush) (by kernel_rfl) (st_bool H2dxxxxxx.out.c_flush (H2dxxxxxx.out.free 45)) ?_
  have A2dxxxxxxx := Lib.hid (A2dxxxxxx.out.far 45 (.bool p.flush) hn1)
  have H2dxxxxxxx := Lib.hid (sf33 H2dxxxxxx.out)
  have R2dxxxxxxx := Lib.hid (R2dxxxxxx.out.far 45 (.bool p.flush) hn2)
  have T2dxxxxxxx := Lib.hid (T2dxxxxxx.out.setCell (p := ⟨hb, 45, none⟩) hnl (.bool p.flush))
  refine hK.out _ _ A2dxxxxxxx.out (fun hHeld => ?_)
  clear hK hHeld A2dxxxxxx H2dxxxxxx R2dxxxxxx T2dxxxxxx
  obtain ⟨Y33, hV⟩ : ∃ V, Y32.setCell ⟨hb, 45, none⟩ (.bool p.flush) = V := ⟨_, rfl⟩
  rw [hV] at A2dxxxxxxx H2dxxxxxxx R2dxxxxxxx T2dxxxxxxx
  refine any_to hV.symm ?_
  clear hV
  refine relist #[true, true, true, true, true, true, true, true, true, true, true, true, true, true, true, true, true, true, true, true, true, true, true, true, true, true, true, true] (by kernel_rfl) ?_
  conv =>
    arg 8
    simp only [Act.put, List.setIfInBounds_toArray, List.set_cons_zero, List.set_cons_succ]
  refine wpAnyH_done (by kernel_rfl) ?_ _
  have A3 := A2dxxxxxxx
  have H3 := H2dxxxxxxx
  have R3 := R2dxxxxxxx
  have T3 := T2dxxxxxxx
  clear A2dxxxxxxx H2dxxxxxxx R2dxxxxxxx T2dxxxxxxx
  try simp only [Act.put, List.setIfInBounds_toArray, List.set_cons_zero, List.set_cons_succ]
  have A3d := Lib.hid (show PtBlk 47 Y33.drew nb p from A3.out)
  have H3d := Lib.hid (show PtBlk 54 Y33.drew hb (hf33 p) from H3.out)
  have R3d := Lib.hid (show PtBlk 54 Y33.drew (nb + 1) zeroP from R3.out)
  have T3d := Lib.hid T3.out.drew
  clear A3 H3 R3 T3
  go_upto_region 5 with (fail)
  refine wp_region_held_drew (S := fun V => PtBlk 47 V nb p) (by kernel_rfl) A3d.out (fun hHeld => ?_)
  refine wpAnyH_take (i := 0) (oi := ⟨some 92, .fieldAddr 47 (.tmp 1) 34, _, _, _, none⟩) (v := .pointer (some ⟨nb, 46, none⟩)) rfl (by kernel_rfl) (by kernel_rfl) (by kernel_rfl) (fun _ _ _ h => h) (yieldsIf_fld (by kernel_rfl) _ _ _ rfl (.pointer (some ⟨nb, 0, none⟩)) (by kernel_rfl) _ (fun w => by go_simp)) hHeld ?_
  conv =>
    arg 8
    simp only [Act.put, List.setIfInBounds_toArray, List.set_cons_zero, List.set_cons_succ]
  refine wpAnyH_take (i := 1) (oi := ⟨some 93, .load 4 (.tmp 92), _, _, _, none⟩) (v := .bool p.sendRstp) rfl (by kernel_rfl) (by kernel_rfl) (by kernel_rfl) (fun _ _ _ h => h) (yieldsIf_run (by kernel_rfl) _ _ rfl ⟨nb, 46, none⟩ (by kernel_rfl) _ (fun V h => ld_bool h.c_sendRstp)) hHeld ?_
  conv =>
    arg 8
    simp only [Act.put, List.setIfInBounds_toArray, List.set_cons_zero, List.set_cons_succ]
  refine wpAnyH_take (i := 2) (oi := ⟨some 94, .fieldAddr 47 (.tmp 1) 35, _, _, _, none⟩) (v := .pointer (some ⟨nb, 47, none⟩)) rfl (by kernel_rfl) (by kernel_rfl) (by kernel_rfl) (fun _ _ _ h => h) (yieldsIf_fld (by kernel_rfl) _ _ _ rfl (.pointer (some ⟨nb, 0, none⟩)) (by kernel_rfl) _ (fun w => by go_simp)) hHeld ?_
  conv =>
    arg 8
    simp only [Act.put, List.setIfInBounds_toArray, List.set_cons_zero, List.set_cons_succ]
  refine wpAnyH_take (i := 3) (oi := ⟨some 95, .load 4 (.tmp 94), _, _, _, none⟩) (v := .bool p.heardRstp) rfl (by kernel_rfl) (by kernel_rfl) (by kernel_rfl) (fun _ _ _ h => h) (yieldsIf_run (by kernel_rfl) _ _ rfl ⟨nb, 47, none⟩ (by kernel_rfl) _ (fun V h => ld_bool h.c_heardRstp)) hHeld ?_
  conv =>
    arg 8
    simp only [Act.put, List.setIfInBounds_toArray, List.set_cons_zero, List.set_cons_succ]
  refine wpAnyH_take (i := 4) (oi := ⟨some 96, .fieldAddr 47 (.tmp 1) 36, _, _, _, none⟩) (v := .pointer (some ⟨nb, 48, none⟩)) rfl (by kernel_rfl) (by kernel_rfl) (by kernel_rfl) (fun _ _ _ h => h) (yieldsIf_fld (by kernel_rfl) _ _ _ rfl (.pointer (some ⟨nb, 0, none⟩)) (by kernel_rfl) _ (fun w => by go_simp)) hHeld ?_
  conv =>
    arg 8
    simp only [Act.put, List.setIfInBounds_toArray, List.set_cons_zero, List.set_cons_succ]
  refine wpAnyH_take (i := 5) (oi := ⟨some 97, .load 4 (.tmp 96), _, _, _, none⟩) (v := .bool p.heardStp) rfl (by kernel_rfl) (by kernel_rfl) (by kernel_rfl) (fun _ _ _ h => h) (yieldsIf_run (by kernel_rfl) _ _ rfl ⟨nb, 48, none⟩ (by kernel_rfl) _ (fun V h => ld_bool h.c_heardStp)) hHeld ?_
  conv =>
    arg 8
    simp only [Act.put, List.setIfInBounds_toArray, List.set_cons_zero, List.set_cons_succ]
  refine wpAnyH_take (i := 6) (oi := ⟨some 98, .fieldAddr 47 (.tmp 1) 37, _, _, _, none⟩) (v := .pointer (some ⟨nb, 49, none⟩)) rfl (by kernel_rfl) (by kernel_rfl) (by kernel_rfl) (fun _ _ _ h => h) (yieldsIf_fld (by kernel_rfl) _ _ _ rfl (.pointer (some ⟨nb, 0, none⟩)) (by kernel_rfl) _ (fun w => by go_simp)) hHeld ?_
  conv =>
    arg 8
    simp only [Act.put, List.setIfInBounds_toArray, List.set_cons_zero, List.set_cons_succ]
  refine wpAnyH_take (i := 7) (oi := ⟨some 99, .load 4 (.tmp 98), _, _, _, none⟩) (v := .bool p.check) rfl (by kernel_rfl) (by kernel_rfl) (by kernel_rfl) (fun _ _ _ h => h) (yieldsIf_run (by kernel_rfl) _ _ rfl ⟨nb, 49, none⟩ (by kernel_rfl) _ (fun V h => ld_bool h.c_check)) hHeld ?_
  conv =>
    arg 8
    simp only [Act.put, List.setIfInBounds_toArray, List.set_cons_zero, List.set_cons_succ]
  refine relist #[true, true, true, true, true, true, true, true, false, false, false, false, false, false, false, false] (by kernel_rfl) ?_
  refine wpAnyH_ready (rs := [8]) (by kernel_rfl) (by simp) ?_
  refine AllReadyH.cons (o := ⟨some 100, .fieldAddr 54 (.tmp 3) 34, _, _, _, none⟩) rfl (fun K hK => ?_) AllReadyH.nil
  refine step_fld (by kernel_rfl) _ _ _ rfl (.pointer (some ⟨hb, 0, none⟩)) (by kernel_rfl) (.pointer (some ⟨hb, 46, none⟩)) (fun w => by go_simp) ?_
  refine hK.out _ _ A3d.out (fun hHeld => ?_)
  clear hK
  refine relist #[true, true, true, true, true, true, true, true, true, false, false, false, false, false, false, false] (by kernel_rfl) ?_
  conv =>
    arg 8
    simp only [Act.put, List.setIfInBounds_toArray, List.set_cons_zero, List.set_cons_succ]
  refine wpAnyH_ready (rs := [9]) (by kernel_rfl) (by simp) ?_
  refine AllReadyH.cons (o := ⟨none, .store 4 (.tmp 100) (.tmp 93), _, _, _, none⟩) rfl (fun K hK => ?_) AllReadyH.nil
  refine step_st1 (by kernel_rfl) _ _ _ rfl ⟨hb, 46, none⟩ (by kernel_rfl) (.bool p.sendRstp) (by kernel_rfl) (st_bool H3d.out.c_sendRstp (H3d.out.free 46)) ?_
  have A3dx := Lib.hid (A3d.out.far 46 (.bool p.sendRstp) hn1)
  have H3dx := Lib.hid (sf34 H3d.out)
  have R3dx := Lib.hid (R3d.out.far 46 (.bool p.sendRstp) hn2)
  have T3dx := Lib.hid (T3d.out.setCell (p := ⟨hb, 46, none⟩) hnl (.bool p.sendRstp))
  refine hK.out _ _ A3dx.out (fun hHeld => ?_)
  clear hK hHeld A3d H3d R3d T3d
  obtain ⟨Y34, hV⟩ : ∃ V, Y33.drew.setCell ⟨hb, 46, none⟩ (.bool p.sendRstp) = V := ⟨_, rfl⟩
  rw [hV] at A3dx H3dx R3dx T3dx
  refine any_to hV.symm ?_
  clear hV
  refine relist #[true, true, true, true, true, true, true, true, true, true, false, false, false, false, false, false] (by kernel_rfl) ?_
  conv =>
    arg 8
    simp only [Act.put, List.setIfInBounds_toArray, List.set_cons_zero, List.set_cons_succ]
  refine wpAnyH_ready (rs := [10]) (by kernel_rfl) (by simp) ?_
  refine AllReadyH.cons (o := ⟨some 101, .fieldAddr 54 (.tmp 3) 35, _, _, _, none⟩) rfl (fun K hK => ?_) AllReadyH.nil
  refine step_fld (by kernel_rfl) _ _ _ rfl (.pointer (some ⟨hb, 0, none⟩)) (by kernel_rfl) (.pointer (some ⟨hb, 47, none⟩)) (fun w => by go_simp) ?_
  refine hK.out _ _ A3dx.out (fun hHeld => ?_)
  clear hK
  refine relist #[true, true, true, true, true, true, true, true, true, true, true, false, false, false, false, false] (by kernel_rfl) ?_
  conv =>
    arg 8
    simp only [Act.put, List.setIfInBounds_toArray, List.set_cons_zero, List.set_cons_succ]
  refine wpAnyH_ready (rs := [11]) (by kernel_rfl) (by simp) ?_
  refine AllReadyH.cons (o := ⟨none, .store 4 (.tmp 101) (.tmp 95), _, _, _, none⟩) rfl (fun K hK => ?_) AllReadyH.nil
  refine step_st1 (by kernel_rfl) _ _ _ rfl ⟨hb, 47, none⟩ (by kernel_rfl) (.bool p.heardRstp) (by kernel_rfl) (st_bool H3dx.out.c_heardRstp (H3dx.out.free 47)) ?_
  have A3dxx := Lib.hid (A3dx.out.far 47 (.bool p.heardRstp) hn1)
  have H3dxx := Lib.hid (sf35 H3dx.out)
  have R3dxx := Lib.hid (R3dx.out.far 47 (.bool p.heardRstp) hn2)
  have T3dxx := Lib.hid (T3dx.out.setCell (p := ⟨hb, 47, none⟩) hnl (.bool p.heardRstp))
  refine hK.out _ _ A3dxx.out (fun hHeld => ?_)
  clear hK hHeld A3dx H3dx R3dx T3dx
  obtain ⟨Y35, hV⟩ : ∃ V, Y34.setCell ⟨hb, 47, none⟩ (.bool p.heardRstp) = V := ⟨_, rfl⟩
  rw [hV] at A3dxx H3dxx R3dxx T3dxx
  refine any_to hV.symm ?_
  clear hV
  refine relist #[true, true, true, true, true, true, true, true, true, true, true, true, false, false, false, false] (by kernel_rfl) ?_
  conv =>
    arg 8
    simp only [Act.put, List.setIfInBounds_toArray, List.set_cons_zero, List.set_cons_succ]
  refine wpAnyH_ready (rs := [12]) (by kernel_rfl) (by simp) ?_
  refine AllReadyH.cons (o := ⟨some 102, .fieldAddr 54 (.tmp 3) 36, _, _, _, none⟩) rfl (fun K hK => ?_) AllReadyH.nil
  refine step_fld (by kernel_rfl) _ _ _ rfl (.pointer (some ⟨hb, 0, none⟩)) (by kernel_rfl) (.pointer (some ⟨hb, 48, none⟩)) (fun w => by go_simp) ?_
  refine hK.out _ _ A3dxx.out (fun hHeld => ?_)
  clear hK
  refine relist #[true, true, true, true, true, true, true, true, true, true, true, true, true, false, false, false] (by kernel_rfl) ?_
  conv =>
    arg 8
    simp only [Act.put, List.setIfInBounds_toArray, List.set_cons_zero, List.set_cons_succ]
  refine wpAnyH_ready (rs := [13]) (by kernel_rfl) (by simp) ?_
  refine AllReadyH.cons (o := ⟨none, .store 4 (.tmp 102) (.tmp 97), _, _, _, none⟩) rfl (fun K hK => ?_) AllReadyH.nil
  refine step_st1 (by kernel_rfl) _ _ _ rfl ⟨hb, 48, none⟩ (by kernel_rfl) (.bool p.heardStp) (by kernel_rfl) (st_bool H3dxx.out.c_heardStp (H3dxx.out.free 48)) ?_
  have A3dxxx := Lib.hid (A3dxx.out.far 48 (.bool p.heardStp) hn1)
  have H3dxxx := Lib.hid (sf36 H3dxx.out)
  have R3dxxx := Lib.hid (R3dxx.out.far 48 (.bool p.heardStp) hn2)
  have T3dxxx := Lib.hid (T3dxx.out.setCell (p := ⟨hb, 48, none⟩) hnl (.bool p.heardStp))
  refine hK.out _ _ A3dxxx.out (fun hHeld => ?_)
  clear hK hHeld A3dxx H3dxx R3dxx T3dxx
  obtain ⟨Y36, hV⟩ : ∃ V, Y35.setCell ⟨hb, 48, none⟩ (.bool p.heardStp) = V := ⟨_, rfl⟩
  rw [hV] at A3dxxx H3dxxx R3dxxx T3dxxx
  refine any_to hV.symm ?_
  clear hV
  refine relist #[true, true, true, true, true, true, true, true, true, true, true, true, true, true, false, false] (by kernel_rfl) ?_
  conv =>
    arg 8
    simp only [Act.put, List.setIfInBounds_toArray, List.set_cons_zero, List.set_cons_succ]
  refine wpAnyH_ready (rs := [14]) (by kernel_rfl) (by simp) ?_
  refine AllReadyH.cons (o := ⟨some 103, .fieldAddr 54 (.tmp 3) 37, _, _, _, none⟩) rfl (fun K hK => ?_) AllReadyH.nil
  refine step_fld (by kernel_rfl) _ _ _ rfl (.pointer (some ⟨hb, 0, none⟩)) (by kernel_rfl) (.pointer (some ⟨hb, 49, none⟩)) (fun w => by go_simp) ?_
  refine hK.out _ _ A3dxxx.out (fun hHeld => ?_)
  clear hK
  refine relist #[true, true, true, true, true, true, true, true, true, true, true, true, true, true, true, false] (by kernel_rfl) ?_
  conv =>
    arg 8
    simp only [Act.put, List.setIfInBounds_toArray, List.set_cons_zero, List.set_cons_succ]
  refine wpAnyH_ready (rs := [15]) (by kernel_rfl) (by simp) ?_
  refine AllReadyH.cons (o := ⟨none, .store 4 (.tmp 103) (.tmp 99), _, _, _, none⟩) rfl (fun K hK => ?_) AllReadyH.nil
  refine step_st1 (by kernel_rfl) _ _ _ rfl ⟨hb, 49, none⟩ (by kernel_rfl) (.bool p.check) (by kernel_rfl) (st_bool H3dxxx.out.c_check (H3dxxx.out.free 49)) ?_
  have A3dxxxx := Lib.hid (A3dxxx.out.far 49 (.bool p.check) hn1)
  have H3dxxxx := Lib.hid (sf37 H3dxxx.out)
  have R3dxxxx := Lib.hid (R3dxxx.out.far 49 (.bool p.check) hn2)
  have T3dxxxx := Lib.hid (T3dxxx.out.setCell (p := ⟨hb, 49, none⟩) hnl (.bool p.check))
  refine hK.out _ _ A3dxxxx.out (fun hHeld => ?_)
  clear hK hHeld A3dxxx H3dxxx R3dxxx T3dxxx
  obtain ⟨Y37, hV⟩ : ∃ V, Y36.setCell ⟨hb, 49, none⟩ (.bool p.check) = V := ⟨_, rfl⟩
  rw [hV] at A3dxxxx H3dxxxx R3dxxxx T3dxxxx
  refine any_to hV.symm ?_
  clear hV
  refine relist #[true, true, true, true, true, true, true, true, true, true, true, true, true, true, true, true] (by kernel_rfl) ?_
  conv =>
    arg 8
    simp only [Act.put, List.setIfInBounds_toArray, List.set_cons_zero, List.set_cons_succ]
  refine wpAnyH_done (by kernel_rfl) ?_ _
  have A4 := A3dxxxx
  have H4 := H3dxxxx
  have R4 := R3dxxxx
  have T4 := T3dxxxx
  clear A3dxxxx H3dxxxx R3dxxxx T3dxxxx
  try simp only [Act.put, List.setIfInBounds_toArray, List.set_cons_zero, List.set_cons_succ]
  have A4d := Lib.hid (show PtBlk 47 Y37.drew nb p from A4.out)
  have H4d := Lib.hid (show PtBlk 54 Y37.drew hb (hf37 p) from H4.out)
  have R4d := Lib.hid (show PtBlk 54 Y37.drew (nb + 1) zeroP from R4.out)
  have T4d := Lib.hid T4.out.drew
  clear A4 H4 R4 T4
  go_upto_region 6 with (fail)
  refine wp_region_held_drew (S := fun V => PtBlk 47 V nb p) (by kernel_rfl) A4d.out (fun hHeld => ?_)
  refine wpAnyH_take (i := 0) (oi := ⟨some 104, .fieldAddr 47 (.tmp 1) 38, _, _, _, none⟩) (v := .pointer (some ⟨nb, 50, none⟩)) rfl (by kernel_rfl) (by kernel_rfl) (by kernel_rfl) (fun _ _ _ h => h) (yieldsIf_fld (by kernel_rfl) _ _ _ rfl (.pointer (some ⟨nb, 0, none⟩)) (by kernel_rfl) _ (fun w => by go_simp)) hHeld ?_
  conv =>
    arg 8
    simp only [Act.put, List.setIfInBounds_toArray, List.set_cons_zero, List.set_cons_succ]
  refine wpAnyH_take (i := 1) (oi := ⟨some 105, .load 3 (.tmp 104), _, _, _, none⟩) (v := .int .i64 p.fd) rfl (by kernel_rfl) (by kernel_rfl) (by kernel_rfl) (fun _ _ _ h => h) (yieldsIf_run (by kernel_rfl) _ _ rfl ⟨nb, 50, none⟩ (by kernel_rfl) _ (fun V h => ld_int h.c_fd)) hHeld ?_
  conv =>
    arg 8
    simp only [Act.put, List.setIfInBounds_toArray, List.set_cons_zero, List.set_cons_succ]
  refine wpAnyH_take (i := 2) (oi := ⟨some 106, .fieldAddr 47 (.tmp 1) 39, _, _, _, none⟩) (v := .pointer (some ⟨nb, 51, none⟩)) rfl (by kernel_rfl) (by kernel_rfl) (by kernel_rfl) (fun _ _ _ h => h) (yieldsIf_fld (by kernel_rfl) _ _ _ rfl (.pointer (some ⟨nb, 0, none⟩)) (by kernel_rfl) _ (fun w => by go_simp)) hHeld ?_
  conv =>
    arg 8
    simp only [Act.put, List.setIfInBounds_toArray, List.set_cons_zero, List.set_cons_succ]
  refine wpAnyH_take (i := 3) (oi := ⟨some 107, .load 3 (.tmp 106), _, _, _, none⟩) (v := .int .i64 p.rr) rfl (by kernel_rfl) (by kernel_rfl) (by kernel_rfl) (fun _ _ _ h => h) (yieldsIf_run (by kernel_rfl) _ _ rfl ⟨nb, 51, none⟩ (by kernel_rfl) _ (fun V h => ld_int h.c_rr)) hHeld ?_
  conv =>
    arg 8
    simp only [Act.put, List.setIfInBounds_toArray, List.set_cons_zero, List.set_cons_succ]
  refine wpAnyH_take (i := 4) (oi := ⟨some 108, .fieldAddr 47 (.tmp 1) 40, _, _, _, none⟩) (v := .pointer (some ⟨nb, 52, none⟩)) rfl (by kernel_rfl) (by kernel_rfl) (by kernel_rfl) (fun _ _ _ h => h) (yieldsIf_fld (by kernel_rfl) _ _ _ rfl (.pointer (some ⟨nb, 0, none⟩)) (by kernel_rfl) _ (fun w => by go_simp)) hHeld ?_
  conv =>
    arg 8
    simp only [Act.put, List.setIfInBounds_toArray, List.set_cons_zero, List.set_cons_succ]
  refine wpAnyH_take (i := 5) (oi := ⟨some 109, .load 3 (.tmp 108), _, _, _, none⟩) (v := .int .i64 p.rb) rfl (by kernel_rfl) (by kernel_rfl) (by kernel_rfl) (fun _ _ _ h => h) (yieldsIf_run (by kernel_rfl) _ _ rfl ⟨nb, 52, none⟩ (by kernel_rfl) _ (fun V h => ld_int h.c_rb)) hHeld ?_
  conv =>
    arg 8
    simp only [Act.put, List.setIfInBounds_toArray, List.set_cons_zero, List.set_cons_succ]
  refine wpAnyH_take (i := 6) (oi := ⟨some 110, .fieldAddr 47 (.tmp 1) 41, _, _, _, none⟩) (v := .pointer (some ⟨nb, 53, none⟩)) rfl (by kernel_rfl) (by kernel_rfl) (by kernel_rfl) (fun _ _ _ h => h) (yieldsIf_fld (by kernel_rfl) _ _ _ rfl (.pointer (some ⟨nb, 0, none⟩)) (by kernel_rfl) _ (fun w => by go_simp)) hHeld ?_
  conv =>
    arg 8
    simp only [Act.put, List.setIfInBounds_toArray, List.set_cons_zero, List.set_cons_succ]
  refine wpAnyH_take (i := 7) (oi := ⟨some 111, .load 3 (.tmp 110), _, _, _, none⟩) (v := .int .i64 p.tc) rfl (by kernel_rfl) (by kernel_rfl) (by kernel_rfl) (fun _ _ _ h => h) (yieldsIf_run (by kernel_rfl) _ _ rfl ⟨nb, 53, none⟩ (by kernel_rfl) _ (fun V h => ld_int h.c_tc)) hHeld ?_
  conv =>
    arg 8
    simp only [Act.put, List.setIfInBounds_toArray, List.set_cons_zero, List.set_cons_succ]
  refine wpAnyH_take (i := 8) (oi := ⟨some 112, .fieldAddr 47 (.tmp 1) 42, _, _, _, none⟩) (v := .pointer (some ⟨nb, 54, none⟩)) rfl (by kernel_rfl) (by kernel_rfl) (by kernel_rfl) (fun _ _ _ h => h) (yieldsIf_fld (by kernel_rfl) _ _ _ rfl (.pointer (some ⟨nb, 0, none⟩)) (by kernel_rfl) _ (fun w => by go_simp)) hHeld ?_
  conv =>
    arg 8
    simp only [Act.put, List.setIfInBounds_toArray, List.set_cons_zero, List.set_cons_succ]
  refine wpAnyH_take (i := 9) (oi := ⟨some 113, .load 3 (.tmp 112), _, _, _, none⟩) (v := .int .i64 p.edge) rfl (by kernel_rfl) (by kernel_rfl) (by kernel_rfl) (fun _ _ _ h => h) (yieldsIf_run (by kernel_rfl) _ _ rfl ⟨nb, 54, none⟩ (by kernel_rfl) _ (fun V h => ld_int h.c_edge)) hHeld ?_
  conv =>
    arg 8
    simp only [Act.put, List.setIfInBounds_toArray, List.set_cons_zero, List.set_cons_succ]
  refine wpAnyH_take (i := 10) (oi := ⟨some 114, .fieldAddr 47 (.tmp 1) 43, _, _, _, none⟩) (v := .pointer (some ⟨nb, 55, none⟩)) rfl (by kernel_rfl) (by kernel_rfl) (by kernel_rfl) (fun _ _ _ h => h) (yieldsIf_fld (by kernel_rfl) _ _ _ rfl (.pointer (some ⟨nb, 0, none⟩)) (by kernel_rfl) _ (fun w => by go_simp)) hHeld ?_
  conv =>
    arg 8
    simp only [Act.put, List.setIfInBounds_toArray, List.set_cons_zero, List.set_cons_succ]
  refine wpAnyH_take (i := 11) (oi := ⟨some 115, .load 3 (.tmp 114), _, _, _, none⟩) (v := .int .i64 p.md) rfl (by kernel_rfl) (by kernel_rfl) (by kernel_rfl) (fun _ _ _ h => h) (yieldsIf_run (by kernel_rfl) _ _ rfl ⟨nb, 55, none⟩ (by kernel_rfl) _ (fun V h => ld_int h.c_md)) hHeld ?_
  conv =>
    arg 8
    simp only [Act.put, List.setIfInBounds_toArray, List.set_cons_zero, List.set_cons_succ]
  refine wpAnyH_take (i := 12) (oi := ⟨some 116, .fieldAddr 47 (.tmp 1) 44, _, _, _, none⟩) (v := .pointer (some ⟨nb, 56, none⟩)) rfl (by kernel_rfl) (by kernel_rfl) (by kernel_rfl) (fun _ _ _ h => h) (yieldsIf_fld (by kernel_rfl) _ _ _ rfl (.pointer (some ⟨nb, 0, none⟩)) (by kernel_rfl) _ (fun w => by go_simp)) hHeld ?_
  conv =>
    arg 8
    simp only [Act.put, List.setIfInBounds_toArray, List.set_cons_zero, List.set_cons_succ]
  refine wpAnyH_take (i := 13) (oi := ⟨some 117, .load 3 (.tmp 116), _, _, _, none⟩) (v := .int .i64 p.info) rfl (by kernel_rfl) (by kernel_rfl) (by kernel_rfl) (fun _ _ _ h => h) (yieldsIf_run (by kernel_rfl) _ _ rfl ⟨nb, 56, none⟩ (by kernel_rfl) _ (fun V h => ld_int h.c_info)) hHeld ?_
  conv =>
    arg 8
    simp only [Act.put, List.setIfInBounds_toArray, List.set_cons_zero, List.set_cons_succ]
  refine wpAnyH_take (i := 14) (oi := ⟨some 118, .fieldAddr 47 (.tmp 1) 45, _, _, _, none⟩) (v := .pointer (some ⟨nb, 57, none⟩)) rfl (by kernel_rfl) (by kernel_rfl) (by kernel_rfl) (fun _ _ _ h => h) (yieldsIf_fld (by kernel_rfl) _ _ _ rfl (.pointer (some ⟨nb, 0, none⟩)) (by kernel_rfl) _ (fun w => by go_simp)) hHeld ?_
  conv =>
    arg 8
    simp only [Act.put, List.setIfInBounds_toArray, List.set_cons_zero, List.set_cons_succ]
  refine wpAnyH_take (i := 15) (oi := ⟨some 119, .load 3 (.tmp 118), _, _, _, none⟩) (v := .int .i64 p.hello) rfl (by kernel_rfl) (by kernel_rfl) (by kernel_rfl) (fun _ _ _ h => h) (yieldsIf_run (by kernel_rfl) _ _ rfl ⟨nb, 57, none⟩ (by kernel_rfl) _ (fun V h => ld_int h.c_hello)) hHeld ?_
  conv =>
    arg 8
    simp only [Act.put, List.setIfInBounds_toArray, List.set_cons_zero, List.set_cons_succ]
  refine relist #[true, true, true, true, true, true, true, true, true, true, true, true, true, true, true, true, false, false, false, false, false, false, false, false, false, false, false, false, false, false, false, false] (by kernel_rfl) ?_
  refine wpAnyH_ready (rs := [16]) (by kernel_rfl) (by simp) ?_
  refine AllReadyH.cons (o := ⟨some 120, .fieldAddr 54 (.tmp 3) 38, _, _, _, none⟩) rfl (fun K hK => ?_) AllReadyH.nil
  refine step_fld (by kernel_rfl) _ _ _ rfl (.pointer (some ⟨hb, 0, none⟩)) (by kernel_rfl) (.pointer (some ⟨hb, 50, none⟩)) (fun w => by go_simp) ?_
  refine hK.out _ _ A4d.out (fun hHeld => ?_)
  clear hK
  refine relist #[true, true, true, true, true, true, true, true, true, true, true, true, true, true, true, true, true, false, false, false, false, false, false, false, false, false, false, false, false, false, false, false] (by kernel_rfl) ?_
  conv =>
    arg 8
    simp only [Act.put, List.setIfInBounds_toArray, List.set_cons_zero, List.set_cons_succ]
  refine wpAnyH_ready (rs := [17]) (by kernel_rfl) (by simp) ?_
  refine AllReadyH.cons (o := ⟨none, .store 3 (.tmp 120) (.tmp 105), _, _, _, none⟩) rfl (fun K hK => ?_) AllReadyH.nil
  refine step_st1 (by kernel_rfl) _ _ _ rfl ⟨hb, 50, none⟩ (by kernel_rfl) (.int .i64 p.fd) (by kernel_rfl) (st_int H4d.out.c_fd (H4d.out.free 50)) ?_
  have A4dx := Lib.hid (A4d.out.far 50 (.int .i64 p.fd) hn1)
  have H4dx := Lib.hid (sf38 H4d.out)
  have R4dx := Lib.hid (R4d.out.far 50 (.int .i64 p.fd) hn2)
  have T4dx := Lib.hid (T4d.out.setCell (p := ⟨hb, 50, none⟩) hnl (.int .i64 p.fd))
  refine hK.out _ _ A4dx.out (fun hHeld => ?_)
  clear hK hHeld A4d H4d R4d T4d
  obtain ⟨Y38, hV⟩ : ∃ V, Y37.drew.setCell ⟨hb, 50, none⟩ (.int .i64 p.fd) = V := ⟨_, rfl⟩
  rw [hV] at A4dx H4dx R4dx T4dx
  refine any_to hV.symm ?_
  clear hV
  refine relist #[true, true, true, true, true, true, true, true, true, true, true, true, true, true, true, true, true, true, false, false, false, false, false, false, false, false, false, false, false, false, false, false] (by kernel_rfl) ?_
  conv =>
    arg 8
    simp only [Act.put, List.setIfInBounds_toArray, List.set_cons_zero, List.set_cons_succ]
  refine wpAnyH_ready (rs := [18]) (by kernel_rfl) (by simp) ?_
  refine AllReadyH.cons (o := ⟨some 121, .fieldAddr 54 (.tmp 3) 39, _, _, _, none⟩) rfl (fun K hK => ?_) AllReadyH.nil
  refine step_fld (by kernel_rfl) _ _ _ rfl (.pointer (some ⟨hb, 0, none⟩)) (by kernel_rfl) (.pointer (some ⟨hb, 51, none⟩)) (fun w => by go_simp) ?_
  refine hK.out _ _ A4dx.out (fun hHeld => ?_)
  clear hK
  refine relist #[true, true, true, true, true, true, true, true, true, true, true, true, true, true, true, true, true, true, true, false, false, false, false, false, false, false, false, false, false, false, false, false] (by kernel_rfl) ?_
  conv =>
    arg 8
    simp only [Act.put, List.setIfInBounds_toArray, List.set_cons_zero, List.set_cons_succ]
  refine wpAnyH_ready (rs := [19]) (by kernel_rfl) (by simp) ?_
  refine AllReadyH.cons (o := ⟨none, .store 3 (.tmp 121) (.tmp 107), _, _, _, none⟩) rfl (fun K hK => ?_) AllReadyH.nil
  refine step_st1 (by kernel_rfl) _ _ _ rfl ⟨hb, 51, none⟩ (by kernel_rfl) (.int .i64 p.rr) (by kernel_rfl) (st_int H4dx.out.c_rr (H4dx.out.free 51)) ?_
  have A4dxx := Lib.hid (A4dx.out.far 51 (.int .i64 p.rr) hn1)
  have H4dxx := Lib.hid (sf39 H4dx.out)
  have R4dxx := Lib.hid (R4dx.out.far 51 (.int .i64 p.rr) hn2)
  have T4dxx := Lib.hid (T4dx.out.setCell (p := ⟨hb, 51, none⟩) hnl (.int .i64 p.rr))
  refine hK.out _ _ A4dxx.out (fun hHeld => ?_)
  clear hK hHeld A4dx H4dx R4dx T4dx
  obtain ⟨Y39, hV⟩ : ∃ V, Y38.setCell ⟨hb, 51, none⟩ (.int .i64 p.rr) = V := ⟨_, rfl⟩
  rw [hV] at A4dxx H4dxx R4dxx T4dxx
  refine any_to hV.symm ?_
  clear hV
  refine relist #[true, true, true, true, true, true, true, true, true, true, true, true, true, true, true, true, true, true, true, true, false, false, false, false, false, false, false, false, false, false, false, false] (by kernel_rfl) ?_
  conv =>
    arg 8
    simp only [Act.put, List.setIfInBounds_toArray, List.set_cons_zero, List.set_cons_succ]
  refine wpAnyH_ready (rs := [20]) (by kernel_rfl) (by simp) ?_
  refine AllReadyH.cons (o := ⟨some 122, .fieldAddr 54 (.tmp 3) 40, _, _, _, none⟩) rfl (fun K hK => ?_) AllReadyH.nil
  refine step_fld (by kernel_rfl) _ _ _ rfl (.pointer (some ⟨hb, 0, none⟩)) (by kernel_rfl) (.pointer (some ⟨hb, 52, none⟩)) (fun w => by go_simp) ?_
  refine hK.out _ _ A4dxx.out (fun hHeld => ?_)
  clear hK
  refine relist #[true, true, true, true, true, true, true, true, true, true, true, true, true, true, true, true, true, true, true, true, true, false, false, false, false, false, false, false, false, false, false, false] (by kernel_rfl) ?_
  conv =>
    arg 8
    simp only [Act.put, List.setIfInBounds_toArray, List.set_cons_zero, List.set_cons_succ]
  refine wpAnyH_ready (rs := [21]) (by kernel_rfl) (by simp) ?_
  refine AllReadyH.cons (o := ⟨none, .store 3 (.tmp 122) (.tmp 109), _, _, _, none⟩) rfl (fun K hK => ?_) AllReadyH.nil
  refine step_st1 (by kernel_rfl) _ _ _ rfl ⟨hb, 52, none⟩ (by kernel_rfl) (.int .i64 p.rb) (by kernel_rfl) (st_int H4dxx.out.c_rb (H4dxx.out.free 52)) ?_
  have A4dxxx := Lib.hid (A4dxx.out.far 52 (.int .i64 p.rb) hn1)
  have H4dxxx := Lib.hid (sf40 H4dxx.out)
  have R4dxxx := Lib.hid (R4dxx.out.far 52 (.int .i64 p.rb) hn2)
  have T4dxxx := Lib.hid (T4dxx.out.setCell (p := ⟨hb, 52, none⟩) hnl (.int .i64 p.rb))
  refine hK.out _ _ A4dxxx.out (fun hHeld => ?_)
  clear hK hHeld A4dxx H4dxx R4dxx T4dxx
  obtain ⟨Y40, hV⟩ : ∃ V, Y39.setCell ⟨hb, 52, none⟩ (.int .i64 p.rb) = V := ⟨_, rfl⟩
  rw [hV] at A4dxxx H4dxxx R4dxxx T4dxxx
  refine any_to hV.symm ?_
  clear hV
  refine relist #[true, true, true, true, true, true, true, true, true, true, true, true, true, true, true, true, true, true, true, true, true, true, false, false, false, false, false, false, false, false, false, false] (by kernel_rfl) ?_
  conv =>
    arg 8
    simp only [Act.put, List.setIfInBounds_toArray, List.set_cons_zero, List.set_cons_succ]
  refine wpAnyH_ready (rs := [22]) (by kernel_rfl) (by simp) ?_
  refine AllReadyH.cons (o := ⟨some 123, .fieldAddr 54 (.tmp 3) 41, _, _, _, none⟩) rfl (fun K hK => ?_) AllReadyH.nil
  refine step_fld (by kernel_rfl) _ _ _ rfl (.pointer (some ⟨hb, 0, none⟩)) (by kernel_rfl) (.pointer (some ⟨hb, 53, none⟩)) (fun w => by go_simp) ?_
  refine hK.out _ _ A4dxxx.out (fun hHeld => ?_)
  clear hK
  refine relist #[true, true, true, true, true, true, true, true, true, true, true, true, true, true, true, true, true, true, true, true, true, true, true, false, false, false, false, false, false, false, false, false] (by kernel_rfl) ?_
  conv =>
    arg 8
    simp only [Act.put, List.setIfInBounds_toArray, List.set_cons_zero, List.set_cons_succ]
  refine wpAnyH_ready (rs := [23]) (by kernel_rfl) (by simp) ?_
  refine AllReadyH.cons (o := ⟨none, .store 3 (.tmp 123) (.tmp 111), _, _, _, none⟩) rfl (fun K hK => ?_) AllReadyH.nil
  refine step_st1 (by kernel_rfl) _ _ _ rfl ⟨hb, 53, none⟩ (by kernel_rfl) (.int .i64 p.tc) (by kernel_rfl) (st_int H4dxxx.out.c_tc (H4dxxx.out.free 53)) ?_
  have A4dxxxx := Lib.hid (A4dxxx.out.far 53 (.int .i64 p.tc) hn1)
  have H4dxxxx := Lib.hid (sf41 H4dxxx.out)
  have R4dxxxx := Lib.hid (R4dxxx.out.far 53 (.int .i64 p.tc) hn2)
  have T4dxxxx := Lib.hid (T4dxxx.out.setCell (p := ⟨hb, 53, none⟩) hnl (.int .i64 p.tc))
  refine hK.out _ _ A4dxxxx.out (fun hHeld => ?_)
  clear hK hHeld A4dxxx H4dxxx R4dxxx T4dxxx
  obtain ⟨Y41, hV⟩ : ∃ V, Y40.setCell ⟨hb, 53, none⟩ (.int .i64 p.tc) = V := ⟨_, rfl⟩
  rw [hV] at A4dxxxx H4dxxxx R4dxxxx T4dxxxx
  refine any_to hV.symm ?_
  clear hV
  refine relist #[true, true, true, true, true, true, true, true, true, true, true, true, true, true, true, true, true, true, true, true, true, true, true, true, false, false, false, false, false, false, false, false] (by kernel_rfl) ?_
  conv =>
    arg 8
    simp only [Act.put, List.setIfInBounds_toArray, List.set_cons_zero, List.set_cons_succ]
  refine wpAnyH_ready (rs := [24]) (by kernel_rfl) (by simp) ?_
  refine AllReadyH.cons (o := ⟨some 124, .fieldAddr 54 (.tmp 3) 42, _, _, _, none⟩) rfl (fun K hK => ?_) AllReadyH.nil
  refine step_fld (by kernel_rfl) _ _ _ rfl (.pointer (some ⟨hb, 0, none⟩)) (by kernel_rfl) (.pointer (some ⟨hb, 54, none⟩)) (fun w => by go_simp) ?_
  refine hK.out _ _ A4dxxxx.out (fun hHeld => ?_)
  clear hK
  refine relist #[true, true, true, true, true, true, true, true, true, true, true, true, true, true, true, true, true, true, true, true, true, true, true, true, true, false, false, false, false, false, false, false] (by kernel_rfl) ?_
  conv =>
    arg 8
    simp only [Act.put, List.setIfInBounds_toArray, List.set_cons_zero, List.set_cons_succ]
  refine wpAnyH_ready (rs := [25]) (by kernel_rfl) (by simp) ?_
  refine AllReadyH.cons (o := ⟨none, .store 3 (.tmp 124) (.tmp 113), _, _, _, none⟩) rfl (fun K hK => ?_) AllReadyH.nil
  refine step_st1 (by kernel_rfl) _ _ _ rfl ⟨hb, 54, none⟩ (by kernel_rfl) (.int .i64 p.edge) (by kernel_rfl) (st_int H4dxxxx.out.c_edge (H4dxxxx.out.free 54)) ?_
  have A4dxxxxx := Lib.hid (A4dxxxx.out.far 54 (.int .i64 p.edge) hn1)
  have H4dxxxxx := Lib.hid (sf42 H4dxxxx.out)
  have R4dxxxxx := Lib.hid (R4dxxxx.out.far 54 (.int .i64 p.edge) hn2)
  have T4dxxxxx := Lib.hid (T4dxxxx.out.setCell (p := ⟨hb, 54, none⟩) hnl (.int .i64 p.edge))
  refine hK.out _ _ A4dxxxxx.out (fun hHeld => ?_)
  clear hK hHeld A4dxxxx H4dxxxx R4dxxxx T4dxxxx
  obtain ⟨Y42, hV⟩ : ∃ V, Y41.setCell ⟨hb, 54, none⟩ (.int .i64 p.edge) = V := ⟨_, rfl⟩
  rw [hV] at A4dxxxxx H4dxxxxx R4dxxxxx T4dxxxxx
  refine any_to hV.symm ?_
  clear hV
  refine relist #[true, true, true, true, true, true, true, true, true, true, true, true, true, true, true, true, true, true, true, true, true, true, true, true, true, true, false, false, false, false, false, false] (by kernel_rfl) ?_
  conv =>
    arg 8
    simp only [Act.put, List.setIfInBounds_toArray, List.set_cons_zero, List.set_cons_succ]
  refine wpAnyH_ready (rs := [26]) (by kernel_rfl) (by simp) ?_
  refine AllReadyH.cons (o := ⟨some 125, .fieldAddr 54 (.tmp 3) 43, _, _, _, none⟩) rfl (fun K hK => ?_) AllReadyH.nil
  refine step_fld (by kernel_rfl) _ _ _ rfl (.pointer (some ⟨hb, 0, none⟩)) (by kernel_rfl) (.pointer (some ⟨hb, 55, none⟩)) (fun w => by go_simp) ?_
  refine hK.out _ _ A4dxxxxx.out (fun hHeld => ?_)
  clear hK
  refine relist #[true, true, true, true, true, true, true, true, true, true, true, true, true, true, true, true, true, true, true, true, true, true, true, true, true, true, true, false, false, false, false, false] (by kernel_rfl) ?_
  conv =>
    arg 8
    simp only [Act.put, List.setIfInBounds_toArray, List.set_cons_zero, List.set_cons_succ]
  refine wpAnyH_ready (rs := [27]) (by kernel_rfl) (by simp) ?_
  refine AllReadyH.cons (o := ⟨none, .store 3 (.tmp 125) (.tmp 115), _, _, _, none⟩) rfl (fun K hK => ?_) AllReadyH.nil
  refine step_st1 (by kernel_rfl) _ _ _ rfl ⟨hb, 55, none⟩ (by kernel_rfl) (.int .i64 p.md) (by kernel_rfl) (st_int H4dxxxxx.out.c_md (H4dxxxxx.out.free 55)) ?_
  have A4dxxxxxx := Lib.hid (A4dxxxxx.out.far 55 (.int .i64 p.md) hn1)
  have H4dxxxxxx := Lib.hid (sf43 H4dxxxxx.out)
  have R4dxxxxxx := Lib.hid (R4dxxxxx.out.far 55 (.int .i64 p.md) hn2)
  have T4dxxxxxx := Lib.hid (T4dxxxxx.out.setCell (p := ⟨hb, 55, none⟩) hnl (.int .i64 p.md))
  refine hK.out _ _ A4dxxxxxx.out (fun hHeld => ?_)
  clear hK hHeld A4dxxxxx H4dxxxxx R4dxxxxx T4dxxxxx
  obtain ⟨Y43, hV⟩ : ∃ V, Y42.setCell ⟨hb, 55, none⟩ (.int .i64 p.md) = V := ⟨_, rfl⟩
  rw [hV] at A4dxxxxxx H4dxxxxxx R4dxxxxxx T4dxxxxxx
  refine any_to hV.symm ?_
  clear hV
  refine relist #[true, true, true, true, true, true, true, true, true, true, true, true, true, true, true, true, true, true, true, true, true, true, true, true, true, true, true, true, false, false, false, false] (by kernel_rfl) ?_
  conv =>
    arg 8
    simp only [Act.put, List.setIfInBounds_toArray, List.set_cons_zero, List.set_cons_succ]
  refine wpAnyH_ready (rs := [28]) (by kernel_rfl) (by simp) ?_
  refine AllReadyH.cons (o := ⟨some 126, .fieldAddr 54 (.tmp 3) 44, _, _, _, none⟩) rfl (fun K hK => ?_) AllReadyH.nil
  refine step_fld (by kernel_rfl) _ _ _ rfl (.pointer (some ⟨hb, 0, none⟩)) (by kernel_rfl) (.pointer (some ⟨hb, 56, none⟩)) (fun w => by go_simp) ?_
  refine hK.out _ _ A4dxxxxxx.out (fun hHeld => ?_)
  clear hK
  refine relist #[true, true, true, true, true, true, true, true, true, true, true, true, true, true, true, true, true, true, true, true, true, true, true, true, true, true, true, true, true, false, false, false] (by kernel_rfl) ?_
  conv =>
    arg 8
    simp only [Act.put, List.setIfInBounds_toArray, List.set_cons_zero, List.set_cons_succ]
  refine wpAnyH_ready (rs := [29]) (by kernel_rfl) (by simp) ?_
  refine AllReadyH.cons (o := ⟨none, .store 3 (.tmp 126) (.tmp 117), _, _, _, none⟩) rfl (fun K hK => ?_) AllReadyH.nil
  refine step_st1 (by kernel_rfl) _ _ _ rfl ⟨hb, 56, none⟩ (by kernel_rfl) (.int .i64 p.info) (by kernel_rfl) (st_int H4dxxxxxx.out.c_info (H4dxxxxxx.out.free 56)) ?_
  have A4dxxxxxxx := Lib.hid (A4dxxxxxx.out.far 56 (.int .i64 p.info) hn1)
  have H4dxxxxxxx := Lib.hid (sf44 H4dxxxxxx.out)
  have R4dxxxxxxx := Lib.hid (R4dxxxxxx.out.far 56 (.int .i64 p.info) hn2)
  have T4dxxxxxxx := Lib.hid (T4dxxxxxx.out.setCell (p := ⟨hb, 56, none⟩) hnl (.int .i64 p.info))
  refine hK.out _ _ A4dxxxxxxx.out (fun hHeld => ?_)
  clear hK hHeld A4dxxxxxx H4dxxxxxx R4dxxxxxx T4dxxxxxx
  obtain ⟨Y44, hV⟩ : ∃ V, Y43.setCell ⟨hb, 56, none⟩ (.int .i64 p.info) = V := ⟨_, rfl⟩
  rw [hV] at A4dxxxxxxx H4dxxxxxxx R4dxxxxxxx T4dxxxxxxx
  refine any_to hV.symm ?_
  clear hV
  refine relist #[true, true, true, true, true, true, true, true, true, true, true, true, true, true, true, true, true, true, true, true, true, true, true, true, true, true, true, true, true, true, false, false] (by kernel_rfl) ?_
  conv =>
    arg 8
    simp only [Act.put, List.setIfInBounds_toArray, List.set_cons_zero, List.set_cons_succ]
  refine wpAnyH_ready (rs := [30]) (by kernel_rfl) (by simp) ?_
  refine AllReadyH.cons (o := ⟨some 127, .fieldAddr 54 (.tmp 3) 45, _, _, _, none⟩) rfl (fun K hK => ?_) AllReadyH.nil
  refine step_fld (by kernel_rfl) _ _ _ rfl (.pointer (some ⟨hb, 0, none⟩)) (by kernel_rfl) (.pointer (some ⟨hb, 57, none⟩)) (fun w => by go_simp) ?_
  refine hK.out _ _ A4dxxxxxxx.out (fun hHeld => ?_)
  clear hK
  refine relist #[true, true, true, true, true, true, true, true, true, true, true, true, true, true, true, true, true, true, true, true, true, true, true, true, true, true, true, true, true, true, true, false] (by kernel_rfl) ?_
  conv =>
    arg 8
    simp only [Act.put, List.setIfInBounds_toArray, List.set_cons_zero, List.set_cons_succ]
  refine wpAnyH_ready (rs := [31]) (by kernel_rfl) (by simp) ?_
  refine AllReadyH.cons (o := ⟨none, .store 3 (.tmp 127) (.tmp 119), _, _, _, none⟩) rfl (fun K hK => ?_) AllReadyH.nil
  refine step_st1 (by kernel_rfl) _ _ _ rfl ⟨hb, 57, none⟩ (by kernel_rfl) (.int .i64 p.hello) (by kernel_rfl) (st_int H4dxxxxxxx.out.c_hello (H4dxxxxxxx.out.free 57)) ?_
  have A4dxxxxxxxx := Lib.hid (A4dxxxxxxx.out.far 57 (.int .i64 p.hello) hn1)
  have H4dxxxxxxxx := Lib.hid (sf45 H4dxxxxxxx.out)
  have R4dxxxxxxxx := Lib.hid (R4dxxxxxxx.out.far 57 (.int .i64 p.hello) hn2)
  have T4dxxxxxxxx := Lib.hid (T4dxxxxxxx.out.setCell (p := ⟨hb, 57, none⟩) hnl (.int .i64 p.hello))
  refine hK.out _ _ A4dxxxxxxxx.out (fun hHeld => ?_)
  clear hK hHeld A4dxxxxxxx H4dxxxxxxx R4dxxxxxxx T4dxxxxxxx
  obtain ⟨Y45, hV⟩ : ∃ V, Y44.setCell ⟨hb, 57, none⟩ (.int .i64 p.hello) = V := ⟨_, rfl⟩
  rw [hV] at A4dxxxxxxxx H4dxxxxxxxx R4dxxxxxxxx T4dxxxxxxxx
  refine any_to hV.symm ?_
  clear hV
  refine relist #[true, true, true, true, true, true, true, true, true, true, true, true, true, true, true, true, true, true, true, true, true, true, true, true, true, true, true, true, true, true, true, true] (by kernel_rfl) ?_
  conv =>
    arg 8
    simp only [Act.put, List.setIfInBounds_toArray, List.set_cons_zero, List.set_cons_succ]
  refine wpAnyH_done (by kernel_rfl) ?_ _
  have A5 := A4dxxxxxxxx
  have H5 := H4dxxxxxxxx
  have R5 := R4dxxxxxxxx
  have T5 := T4dxxxxxxxx
  clear A4dxxxxxxxx H4dxxxxxxxx R4dxxxxxxxx T4dxxxxxxxx
  try simp only [Act.put, List.setIfInBounds_toArray, List.set_cons_zero, List.set_cons_succ]
  have A5d := Lib.hid (show PtBlk 47 Y45.drew nb p from A5.out)
  have H5d := Lib.hid (show PtBlk 54 Y45.drew hb (hf45 p) from H5.out)
  have R5d := Lib.hid (show PtBlk 54 Y45.drew (nb + 1) zeroP from R5.out)
  have T5d := Lib.hid T5.out.drew
  clear A5 H5 R5 T5
  go_upto_region 7 with (fail)
  refine wp_region_held_drew (S := fun V => PtBlk 47 V nb p) (by kernel_rfl) A5d.out (fun hHeld => ?_)
  refine wpAnyH_take (i := 0) (oi := ⟨some 128, .fieldAddr 47 (.tmp 1) 46, _, _, _, none⟩) (v := .pointer (some ⟨nb, 58, none⟩)) rfl (by kernel_rfl) (by kernel_rfl) (by kernel_rfl) (fun _ _ _ h => h) (yieldsIf_fld (by kernel_rfl) _ _ _ rfl (.pointer (some ⟨nb, 0, none⟩)) (by kernel_rfl) _ (fun w => by go_simp)) hHeld ?_
  conv =>
    arg 8
    simp only [Act.put, List.setIfInBounds_toArray, List.set_cons_zero, List.set_cons_succ]
  refine wpAnyH_take (i := 1) (oi := ⟨some 129, .load 3 (.tmp 128), _, _, _, none⟩) (v := .int .i64 p.txCount) rfl (by kernel_rfl) (by kernel_rfl) (by kernel_rfl) (fun _ _ _ h => h) (yieldsIf_run (by kernel_rfl) _ _ rfl ⟨nb, 58, none⟩ (by kernel_rfl) _ (fun V h => ld_int h.c_txCount)) hHeld ?_
  conv =>
    arg 8
    simp only [Act.put, List.setIfInBounds_toArray, List.set_cons_zero, List.set_cons_succ]
  refine wpAnyH_take (i := 2) (oi := ⟨some 130, .fieldAddr 47 (.tmp 1) 47, _, _, _, none⟩) (v := .pointer (some ⟨nb, 59, none⟩)) rfl (by kernel_rfl) (by kernel_rfl) (by kernel_rfl) (fun _ _ _ h => h) (yieldsIf_fld (by kernel_rfl) _ _ _ rfl (.pointer (some ⟨nb, 0, none⟩)) (by kernel_rfl) _ (fun w => by go_simp)) hHeld ?_
  conv =>
    arg 8
    simp only [Act.put, List.setIfInBounds_toArray, List.set_cons_zero, List.set_cons_succ]
  refine wpAnyH_take (i := 3) (oi := ⟨some 131, .load 3 (.tmp 130), _, _, _, none⟩) (v := .int .i64 p.change) rfl (by kernel_rfl) (by kernel_rfl) (by kernel_rfl) (fun _ _ _ h => h) (yieldsIf_run (by kernel_rfl) _ _ rfl ⟨nb, 59, none⟩ (by kernel_rfl) _ (fun V h => ld_int h.c_change)) hHeld ?_
  conv =>
    arg 8
    simp only [Act.put, List.setIfInBounds_toArray, List.set_cons_zero, List.set_cons_succ]
  refine wpAnyH_take (i := 4) (oi := ⟨some 132, .fieldAddr 47 (.tmp 1) 48, _, _, _, none⟩) (v := .pointer (some ⟨nb, 60, none⟩)) rfl (by kernel_rfl) (by kernel_rfl) (by kernel_rfl) (fun _ _ _ h => h) (yieldsIf_fld (by kernel_rfl) _ _ _ rfl (.pointer (some ⟨nb, 0, none⟩)) (by kernel_rfl) _ (fun w => by go_simp)) hHeld ?_
  conv =>
    arg 8
    simp only [Act.put, List.setIfInBounds_toArray, List.set_cons_zero, List.set_cons_succ]
  refine wpAnyH_take (i := 5) (oi := ⟨some 133, .load 3 (.tmp 132), _, _, _, none⟩) (v := .int .i64 p.migrate) rfl (by kernel_rfl) (by kernel_rfl) (by kernel_rfl) (fun _ _ _ h => h) (yieldsIf_run (by kernel_rfl) _ _ rfl ⟨nb, 60, none⟩ (by kernel_rfl) _ (fun V h => ld_int h.c_migrate)) hHeld ?_
  conv =>
    arg 8
    simp only [Act.put, List.setIfInBounds_toArray, List.set_cons_zero, List.set_cons_succ]
  refine relist #[true, true, true, true, true, true, false, false, false, false, false, false] (by kernel_rfl) ?_
  refine wpAnyH_ready (rs := [6]) (by kernel_rfl) (by simp) ?_
  refine AllReadyH.cons (o := ⟨some 134, .fieldAddr 54 (.tmp 3) 46, _, _, _, none⟩) rfl (fun K hK => ?_) AllReadyH.nil
  refine step_fld (by kernel_rfl) _ _ _ rfl (.pointer (some ⟨hb, 0, none⟩)) (by kernel_rfl) (.pointer (some ⟨hb, 58, none⟩)) (fun w => by go_simp) ?_
  refine hK.out _ _ A5d.out (fun hHeld => ?_)
  clear hK
  refine relist #[true, true, true, true, true, true, true, false, false, false, false, false] (by kernel_rfl) ?_
  conv =>
    arg 8
    simp only [Act.put, List.setIfInBounds_toArray, List.set_cons_zero, List.set_cons_succ]
  refine wpAnyH_ready (rs := [7]) (by kernel_rfl) (by simp) ?_
  refine AllReadyH.cons (o := ⟨none, .store 3 (.tmp 134) (.tmp 129), _, _, _, none⟩) rfl (fun K hK => ?_) AllReadyH.nil
  refine step_st1 (by kernel_rfl) _ _ _ rfl ⟨hb, 58, none⟩ (by kernel_rfl) (.int .i64 p.txCount) (by kernel_rfl) (st_int H5d.out.c_txCount (H5d.out.free 58)) ?_
  have A5dx := Lib.hid (A5d.out.far 58 (.int .i64 p.txCount) hn1)
  have H5dx := Lib.hid (sf46 H5d.out)
  have R5dx := Lib.hid (R5d.out.far 58 (.int .i64 p.txCount) hn2)
  have T5dx := Lib.hid (T5d.out.setCell (p := ⟨hb, 58, none⟩) hnl (.int .i64 p.txCount))
  refine hK.out _ _ A5dx.out (fun hHeld => ?_)
  clear hK hHeld A5d H5d R5d T5d
  obtain ⟨Y46, hV⟩ : ∃ V, Y45.drew.setCell ⟨hb, 58, none⟩ (.int .i64 p.txCount) = V := ⟨_, rfl⟩
  rw [hV] at A5dx H5dx R5dx T5dx
  refine any_to hV.symm ?_
  clear hV
  refine relist #[true, true, true, true, true, true, true, true, false, false, false, false] (by kernel_rfl) ?_
  conv =>
    arg 8
    simp only [Act.put, List.setIfInBounds_toArray, List.set_cons_zero, List.set_cons_succ]
  refine wpAnyH_ready (rs := [8]) (by kernel_rfl) (by simp) ?_
  refine AllReadyH.cons (o := ⟨some 135, .fieldAddr 54 (.tmp 3) 47, _, _, _, none⟩) rfl (fun K hK => ?_) AllReadyH.nil
  refine step_fld (by kernel_rfl) _ _ _ rfl (.pointer (some ⟨hb, 0, none⟩)) (by kernel_rfl) (.pointer (some ⟨hb, 59, none⟩)) (fun w => by go_simp) ?_
  refine hK.out _ _ A5dx.out (fun hHeld => ?_)
  clear hK
  refine relist #[true, true, true, true, true, true, true, true, true, false, false, false] (by kernel_rfl) ?_
  conv =>
    arg 8
    simp only [Act.put, List.setIfInBounds_toArray, List.set_cons_zero, List.set_cons_succ]
  refine wpAnyH_ready (rs := [9]) (by kernel_rfl) (by simp) ?_
  refine AllReadyH.cons (o := ⟨none, .store 3 (.tmp 135) (.tmp 131), _, _, _, none⟩) rfl (fun K hK => ?_) AllReadyH.nil
  refine step_st1 (by kernel_rfl) _ _ _ rfl ⟨hb, 59, none⟩ (by kernel_rfl) (.int .i64 p.change) (by kernel_rfl) (st_int H5dx.out.c_change (H5dx.out.free 59)) ?_
  have A5dxx := Lib.hid (A5dx.out.far 59 (.int .i64 p.change) hn1)
  have H5dxx := Lib.hid (sf47 H5dx.out)
  have R5dxx := Lib.hid (R5dx.out.far 59 (.int .i64 p.change) hn2)
  have T5dxx := Lib.hid (T5dx.out.setCell (p := ⟨hb, 59, none⟩) hnl (.int .i64 p.change))
  refine hK.out _ _ A5dxx.out (fun hHeld => ?_)
  clear hK hHeld A5dx H5dx R5dx T5dx
  obtain ⟨Y47, hV⟩ : ∃ V, Y46.setCell ⟨hb, 59, none⟩ (.int .i64 p.change) = V := ⟨_, rfl⟩
  rw [hV] at A5dxx H5dxx R5dxx T5dxx
  refine any_to hV.symm ?_
  clear hV
  refine relist #[true, true, true, true, true, true, true, true, true, true, false, false] (by kernel_rfl) ?_
  conv =>
    arg 8
    simp only [Act.put, List.setIfInBounds_toArray, List.set_cons_zero, List.set_cons_succ]
  refine wpAnyH_ready (rs := [10]) (by kernel_rfl) (by simp) ?_
  refine AllReadyH.cons (o := ⟨some 136, .fieldAddr 54 (.tmp 3) 48, _, _, _, none⟩) rfl (fun K hK => ?_) AllReadyH.nil
  refine step_fld (by kernel_rfl) _ _ _ rfl (.pointer (some ⟨hb, 0, none⟩)) (by kernel_rfl) (.pointer (some ⟨hb, 60, none⟩)) (fun w => by go_simp) ?_
  refine hK.out _ _ A5dxx.out (fun hHeld => ?_)
  clear hK
  refine relist #[true, true, true, true, true, true, true, true, true, true, true, false] (by kernel_rfl) ?_
  conv =>
    arg 8
    simp only [Act.put, List.setIfInBounds_toArray, List.set_cons_zero, List.set_cons_succ]
  refine wpAnyH_ready (rs := [11]) (by kernel_rfl) (by simp) ?_
  refine AllReadyH.cons (o := ⟨none, .store 3 (.tmp 136) (.tmp 133), _, _, _, none⟩) rfl (fun K hK => ?_) AllReadyH.nil
  refine step_st1 (by kernel_rfl) _ _ _ rfl ⟨hb, 60, none⟩ (by kernel_rfl) (.int .i64 p.migrate) (by kernel_rfl) (st_int H5dxx.out.c_migrate (H5dxx.out.free 60)) ?_
  have A5dxxx := Lib.hid (A5dxx.out.far 60 (.int .i64 p.migrate) hn1)
  have H5dxxx := Lib.hid (sf48 H5dxx.out)
  have R5dxxx := Lib.hid (R5dxx.out.far 60 (.int .i64 p.migrate) hn2)
  have T5dxxx := Lib.hid (T5dxx.out.setCell (p := ⟨hb, 60, none⟩) hnl (.int .i64 p.migrate))
  refine hK.out _ _ A5dxxx.out (fun hHeld => ?_)
  clear hK hHeld A5dxx H5dxx R5dxx T5dxx
  obtain ⟨Y48, hV⟩ : ∃ V, Y47.setCell ⟨hb, 60, none⟩ (.int .i64 p.migrate) = V := ⟨_, rfl⟩
  rw [hV] at A5dxxx H5dxxx R5dxxx T5dxxx
  refine any_to hV.symm ?_
  clear hV
  refine relist #[true, true, true, true, true, true, true, true, true, true, true, true] (by kernel_rfl) ?_
  conv =>
    arg 8
    simp only [Act.put, List.setIfInBounds_toArray, List.set_cons_zero, List.set_cons_succ]
  refine wpAnyH_done (by kernel_rfl) ?_ _
  have A6 := A5dxxx
  have H6 := H5dxxx
  have R6 := R5dxxx
  have T6 := T5dxxx
  clear A5dxxx H5dxxx R5dxxx T5dxxx
  try simp only [Act.put, List.setIfInBounds_toArray, List.set_cons_zero, List.set_cons_succ]
  go_upto_region 8 with (fail)
  refine wp_region_list ?_
  refine wpList_load_row rfl 54 _ rfl hb rfl 54 (cellsT p) (0, 0) _ (half_all p ▸ H6.out) rfl rfl infoRP ?_
  refine wpList_store_row rfl 54 _ _ rfl (nb + 1) (cellsT p) rfl rfl 54 _ R6.out infoRP rfl (cellsT_one p) ?_
  have K5 := Lib.hid (R6.out.row p)
  have K6 := Lib.hid (below_row T6.out (g := nb + 1) (by omega) (cellsT p))
  go_wp2
  exact bodyPost_ret (v := .agg (cellsT p)) (results_cell_row rfl _ _ (nb + 1) 54 (cellsT p) (0, 0) _ rfl K5.out rfl rfl infoRP) rfl ⟨rfl, HN.out ▸ K6.out⟩
end Go.Proofs.Ytlfmjinllffifaa
