/-
  Layer 11: the document's Hear.
-/
import Derived.Test.YtbiggckddoeghaaInDd
namespace Go.Proofs.Ytbiggckddoeghaa
set_option linter.unusedVariables false
set_option linter.unusedSimpArgs false
open Go.RowKit Vm Rm Bm Im

/-- What the document's Hear keeps before its times: the port (block nb), the BPDU, the answer's block. -/
structure HS0 (w : World) (nb : Nat) (q : Bp) (X : Pt) (wx : World) : Prop where
  pt : PtBlk 34 wx nb X
  bp : BBlk 40 wx (nb + 1) q
  rs : PtBlk 34 wx (nb + 2) zeroP
  lo : Below nb w wx
theorem HS0.set {w wx : World} {nb : Nat} {q : Bp} {X Y : Pt} (h : HS0 w nb q X wx) (j : Nat) (v : Value) (k : PtBlk 34 wx nb X → PtBlk 34 (wx.setCell ⟨nb, j, none⟩ v) nb Y) : HS0 w nb q Y (wx.setCell ⟨nb, j, none⟩ v) :=
  ⟨k h.pt, h.bp.other j v (by omega), h.rs.far (c := nb) j v (by omega), h.lo.setCell (p := ⟨nb, j, none⟩) (Nat.le_refl _) v⟩
theorem HS0.next {w wx wy : World} {nb : Nat} {q : Bp} {X : Pt} (h : HS0 w nb q X wx) (hb : Below wx.heap.size wx wy) : HS0 w nb q X wy :=
  ⟨h.pt.next hb, h.bp.next hb, h.rs.next hb, h.lo.trans (hb.mono (by have := h.pt.lt; omega))⟩
theorem HS0.as {w wx : World} {nb : Nat} {q : Bp} {X Y : Pt} (h : HS0 w nb q X wx) (e : X = Y) : HS0 w nb q Y wx := e ▸ h

/-- What the document's Hear keeps: the port (block nb), the BPDU, the answer's block, and the times (block tb). -/
structure HSt (w : World) (nb tb : Nat) (q : Bp) (t : Tm) (X : Pt) (wx : World) : Prop where
  pt : PtBlk 34 wx nb X
  bp : BBlk 40 wx (nb + 1) q
  rs : PtBlk 34 wx (nb + 2) zeroP
  tm : TBk 32 wx tb t.age t.max t.hello t.delay
  lo : Below nb w wx
  tb2 : nb + 2 < tb
theorem HSt.set {w wx : World} {nb tb : Nat} {q : Bp} {t : Tm} {X Y : Pt} (h : HSt w nb tb q t X wx) (j : Nat) (v : Value) (k : PtBlk 34 wx nb X → PtBlk 34 (wx.setCell ⟨nb, j, none⟩ v) nb Y) : HSt w nb tb q t Y (wx.setCell ⟨nb, j, none⟩ v) :=
  ⟨k h.pt, h.bp.other j v (by omega), h.rs.far (c := nb) j v (by omega), h.tm.far (c := nb) j v (by have := h.tb2; omega), h.lo.setCell (p := ⟨nb, j, none⟩) (Nat.le_refl _) v, h.tb2⟩
theorem HSt.next {w wx wy : World} {nb tb : Nat} {q : Bp} {t : Tm} {X : Pt} (h : HSt w nb tb q t X wx) (hb : Below wx.heap.size wx wy) : HSt w nb tb q t X wy :=
  ⟨h.pt.next hb, h.bp.next hb, h.rs.next hb, h.tm.next hb, h.lo.trans (hb.mono (by have := h.pt.lt; omega)), h.tb2⟩
theorem HSt.as {w wx : World} {nb tb : Nat} {q : Bp} {t : Tm} {X Y : Pt} (h : HSt w nb tb q t X wx) (e : X = Y) : HSt w nb tb q t Y wx := e ▸ h

theorem HSt.set4 {w wx : World} {nb tb : Nat} {q : Bp} {t : Tm} {X Y : Pt} (h : HSt w nb tb q t X wx) (j0 j1 j2 j3 : Nat) (v0 v1 v2 v3 : Value) (k : PtBlk 34 wx nb X → PtBlk 34 ((((wx.setCell ⟨nb, j0, none⟩ v0).setCell ⟨nb, j1, none⟩ v1).setCell ⟨nb, j2, none⟩ v2).setCell ⟨nb, j3, none⟩ v3) nb Y) : HSt w nb tb q t Y ((((wx.setCell ⟨nb, j0, none⟩ v0).setCell ⟨nb, j1, none⟩ v1).setCell ⟨nb, j2, none⟩ v2).setCell ⟨nb, j3, none⟩ v3) :=
  ⟨k h.pt, (((h.bp.other j0 v0 (by omega)).other j1 v1 (by omega)).other j2 v2 (by omega)).other j3 v3 (by omega), (((h.rs.far (c := nb) j0 v0 (by omega)).far (c := nb) j1 v1 (by omega)).far (c := nb) j2 v2 (by omega)).far (c := nb) j3 v3 (by omega), (((h.tm.far (c := nb) j0 v0 (by have := h.tb2; omega)).far (c := nb) j1 v1 (by have := h.tb2; omega)).far (c := nb) j2 v2 (by have := h.tb2; omega)).far (c := nb) j3 v3 (by have := h.tb2; omega), (((h.lo.setCell (p := ⟨nb, j0, none⟩) (Nat.le_refl _) v0).setCell (p := ⟨nb, j1, none⟩) (Nat.le_refl _) v1).setCell (p := ⟨nb, j2, none⟩) (Nat.le_refl _) v2).setCell (p := ⟨nb, j3, none⟩) (Nat.le_refl _) v3, h.tb2⟩

theorem super_all {F : Pt} {q : Bp} {rp b1 b0 b7 AG EQ : Bool} {H : Int} (hrp : decide (q.kind = 3) = rp) (h1 : bitB q.flags 1 = b1) (h0 : bitB q.flags 0 = b0) (h7 : bitB q.flags 7 = b7)
    (hH : (if q.hello / 256 < 1 then 1 else q.hello / 256) = H) (hA : decide (q.age / 256 + 1 > q.max / 256) = AG) (hE : decide (vecOf q = F.vec) = EQ) :
    superP F q = { F with agreed := false, proposing := false, proposed := F.proposed || (rp && b1), heardTc := F.heardTc || b0, heardAck := F.heardAck || (!rp && b7), info := if AG then 0 else 3 * H, agree := F.agree && EQ, synced := F.synced && EQ, vec := ⟨q.root, q.cost, q.bridge, q.port⟩, times := ⟨q.age / 256, q.max / 256, H, q.delay / 256⟩, source := 3, reselect := true, ready := false } := by
  subst hrp h1 h0 h7 hH hA hE
  unfold superP recordP
  by_cases h : q.age / 256 + 1 > q.max / 256
  · simp [vecOf, timesOf, h]
  · simp [vecOf, timesOf, h]
end Go.Proofs.Ytbiggckddoeghaa
