/-
  Layer 11: mustSettle; the deed that choose hands back.
-/
import Derived.Test.YtngdilmgbgdkcaaDoorInP
namespace Go.Proofs.YtngdilmgbgdkcaaDoor
set_option linter.unusedVariables false
set_option linter.unusedSimpArgs false
open Go.RowKit Vm Rm Bm Im

/-- Whether what was chosen is to come to be a port's own. -/
def mustB (p : Pt) : Bool := p.on && (decide (p.source = 1) || (decide (p.source = 2) && !(decide (p.vec = p.offer) && decide (p.times = p.given))) || (decide (p.source = 3) && decide (p.selected = 2)))

/-- The deed. -/
def choP (sel : Int) (v : Vc) (g : Tm) (p : Pt) : Pt := { p with reselect := false, ready := true, selected := sel, offer := v, given := g }
theorem Tn.put4o {T : TypeId} {b : Nat} {X : Pt} {w w1 : World} (t : Tn T b X w w1) (r c br q : Int) : Tn T b { X with offer := ⟨r, c, br, q⟩ } w ((((w1.setCell ⟨b, 14, none⟩ (.int .u64 r)).setCell ⟨b, 15, none⟩ (.int .u64 c)).setCell ⟨b, 16, none⟩ (.int .u64 br)).setCell ⟨b, 17, none⟩ (.int .u64 q)) :=
  ((((t.kp.set 14 _).set 15 _).set 16 _).set 17 _).tn (t.blk.s_offer r c br q)
theorem Tn.put4g {T : TypeId} {b : Nat} {X : Pt} {w w1 : World} (t : Tn T b X w w1) (x m h d : Int) : Tn T b { X with given := ⟨x, m, h, d⟩ } w ((((w1.setCell ⟨b, 18, none⟩ (.int .i64 x)).setCell ⟨b, 19, none⟩ (.int .i64 m)).setCell ⟨b, 20, none⟩ (.int .i64 h)).setCell ⟨b, 21, none⟩ (.int .i64 d)) :=
  ((((t.kp.set 18 _).set 19 _).set 20 _).set 21 _).tn (t.blk.s_given x m h d)

theorem cho_eq (p X1 Y : Pt) (sel : Int) (v : Vc) (g : Tm) (e1 : ({ ({ p with reselect := false } : Pt) with ready := true } : Pt) = X1) (e2 : ({ ({ ({ X1 with selected := sel } : Pt) with offer := v } : Pt) with given := g } : Pt) = Y) : choP sel v g p = Y := by
  subst e1 e2
  rfl
end Go.Proofs.YtngdilmgbgdkcaaDoor
